/-
  NumActs' contract, NumJoins' contract.
-/
import Derived.Test.YtefdfggkhnahiaaNe
namespace Go.Proofs.Ytefdfggkhnahiaa.Sx.Z
open Go.RowKit
def s0Z (n : Int) (b : Bool) : Zs := if b = true then (false, fun _ => 0) else (false, topF n)
theorem s0_good {n : Int} (hn : 0 ≤ n ∧ n ≤ 6) (b : Bool) : Good n (s0Z n b) := by
  unfold s0Z
  split
  · exact good_none hn false
  · have := good_top n; rwa [show topN n = n by unfold topN; omega] at this
def ZO (n : Int) (row : D) : Zs := actsZ n row (false, fun _ => 0)
theorem ZO_good {n : Int} (hn : 0 ≤ n ∧ n ≤ 6) (row : D) : Good n (ZO n row) := good_actsZ (good_none hn false)
def nactsS : FSpec := fun ds _ => match ds with
  | [.i n, .b b, .d row] => some { val := .one (.sc (.bool (.sym (true)))), vc := [] }
  | _ => none
def nactsC : Con := con [iA, .sc .bool, .sc (.rows 50)] nactsS
theorem nacts_ok : ConOK Try.prog 3 nactsC := by
  refine fn_ob tt_ok mixed Try.func3 rfl (fun _ _ => by kernel_rfl) (A := fun ds => ⟨fun _ => Cons.of [(11, ntopC), (12, rtopC), (13, nzerosC), (14, rmeetC), (15, meetsC), (16, likeC), (17, nnoneC), (18, napplyC)], fun k => match k, ds with | 6, [.i n, .b b, .d row] => some { ι := Nat, pre := fun _ i => i ≤ (kz n).toNat, μ := fun i => 9 - i, st := fun s i => famR s [(10, .one (.sc (.int .i64 (.sym ((i : Nat))))))] [2, 7, 8, 9] [(idOf s 9, .own 32 (zs (.sym (kz n)) (.sym (zoP (kz n) i : Zs).1) (zoP (kz n) i : Zs).2))] [8] } | _, _ => none, fun k => match k, ds with | 3, [.i n, .b b, .d row] => some { ι := Bool, pre := fun _ _ => True, μ := fun _ => 0, st := fun s _ => famR s [(7, .one (.sc (.int .i64 (.sym (kz n))))), (8, .one (.sc (.ptr (s.nx - 1) (.lit 0)))), (9, .one (.sc (.ptr (s.nx - 2) (.lit 0))))] [1, 2] [(s.nx - 1, .own 30 ([.c (.bool (.sym ((false, topF (kz n)) : Zs).1)), .c (.rows 53 (itD (kz n).toNat (kz n) ((false, topF (kz n))))), .c (.int .i64 (.sym (kz n))), .c (.bool (.sym ((false, topF (kz n)) : Zs).1)), .ints .i64 (.lit 49) ((false, topF (kz n)) : Zs).2])), (s.nx - 2, .own 32 (zs (.sym (kz n)) (.sym ((false, topF (kz n)) : Zs).1) ((false, topF (kz n)) : Zs).2))] [] } | 9, [.i n, .b b, .d row] => some { ι := Bool, pre := fun _ _ => True, μ := fun _ => 0, st := fun s _ => famR s [] [2, 7, 8, 9] [(idOf s 8, .own 30 ([.c (.bool (.sym (s0Z (kz n) b : Zs).1)), .c (.rows 53 (itD (kz n).toNat (kz n) (s0Z (kz n) b))), .c (.int .i64 (.sym (kz n))), .c (.bool (.sym (s0Z (kz n) b : Zs).1)), .ints .i64 (.lit 49) (s0Z (kz n) b : Zs).2])), (idOf s 9, .own 32 (zs (.sym (kz n)) (.sym (s0Z (kz n) b : Zs).1) (s0Z (kz n) b : Zs).2))] [] } | _, _ => none⟩) (fun _ _ => (cons_cons ntop_ok (cons_cons rtop_ok (cons_cons nzeros_ok (cons_cons rmeet_ok (cons_cons meets_ok (cons_cons like_ok (cons_cons nnone_ok (cons_cons napply_ok cons_nil))))))))) (by kernel_rfl) ?_
  intro ds fr
  unfold nactsS
  split
  · rename_i n b row
    refine kmp (q := (∃ (i : Bool),
 True ∧
 IntKind.i64.wrap ((IntKind.u64.wrap n).tmod (7 : Int)) = kz n ∧
 b = b ∧
 row.rows = row.rows ∧
 false = false ∧
 List.map
 (fun (j : Nat) =>
 [D.i
 (itvLo (topN (IntKind.i64.wrap ((IntKind.u64.wrap n).tmod (7 : Int)))) false
 (topF (IntKind.i64.wrap ((IntKind.u64.wrap n).tmod (7 : Int)))) (↑j : Int)),
 D.i
 (itvHi (topN (IntKind.i64.wrap ((IntKind.u64.wrap n).tmod (7 : Int)))) false
 (topF (IntKind.i64.wrap ((IntKind.u64.wrap n).tmod (7 : Int)))) (↑j : Int))])
 (List.range (topN (IntKind.i64.wrap ((IntKind.u64.wrap n).tmod (7 : Int)))).toNat) =
 List.map (fun (j : Nat) => [D.i (itvLo (kz n) false (topF (kz n)) (↑j : Int)), D.i (itvHi (kz n) false (topF (kz n)) (↑j : Int))])
 (List.range (kz n).toNat) ∧
 topN (IntKind.i64.wrap ((IntKind.u64.wrap n).tmod (7 : Int))) = kz n ∧
 false = false ∧
 (∀ (o : Nat), o < nat_lit 49 → topF (IntKind.i64.wrap ((IntKind.u64.wrap n).tmod (7 : Int))) o = topF (kz n) o) ∧
 topN (IntKind.i64.wrap ((IntKind.u64.wrap n).tmod (7 : Int))) = kz n ∧
 false = false ∧ ∀ (o : Nat), o < nat_lit 49 → topF (IntKind.i64.wrap ((IntKind.u64.wrap n).tmod (7 : Int))) o = topF (kz n) o) ∧
 ∀ (i : Bool),
 True →
 ((b = true →
 (∃ (i : Nat),
 i.le (kz n).toNat ∧
 (0 : Int) = (↑i : Int) ∧
 row.rows = row.rows ∧
 kz n = kz n ∧
 kz n = kz n ∧
 false = (zoP (kz n) i).fst ∧
 (∀ (o : Nat), o < nat_lit 49 → topF (kz n) o = (zoP (kz n) i).snd o) ∧
 false = false ∧
 List.map
 (fun (j : Nat) =>
 [D.i (itvLo (topN (kz n)) false (fun (x : Nat) => (0 : Int)) (↑j : Int)),
 D.i (itvHi (topN (kz n)) false (fun (x : Nat) => (0 : Int)) (↑j : Int))])
 (List.range (topN (kz n)).toNat) =
 List.map
 (fun (j : Nat) =>
 [D.i (itvLo (topN (kz n)) false (fun (x : Nat) => (0 : Int)) (↑j : Int)),
 D.i (itvHi (topN (kz n)) false (fun (x : Nat) => (0 : Int)) (↑j : Int))])
 (List.range (topN (kz n)).toNat) ∧
 topN (kz n) = topN (kz n) ∧ false = false ∧ ∀ (o : Nat), o < nat_lit 49 → (0 : Int) = (0 : Int)) ∧
 ∀ (i : Nat),
 i.le (kz n).toNat →
 (decide ((↑i : Int) < kz n) = true →
 Good (kz n) ((zoP (kz n) i).fst, (zoP (kz n) i).snd) ∧
 isVarP (kz n) (↑i : Int) = true ∧
 ((-2147483648 : Int) ≤ (0 : Int) ∧ (0 : Int) ≤ (2147483647 : Int)) ∧
 ((-2147483648 : Int) ≤ (0 : Int) ∧ (0 : Int) ≤ (2147483647 : Int)) ∧
 ∃ (j : Nat),
 j.le (kz n).toNat ∧
 (9 : Nat) - j < (9 : Nat) - i ∧
 IntKind.i64.wrap ((↑i : Int) + (1 : Int)) = (↑j : Int) ∧
 row.rows = row.rows ∧
 kz n = kz n ∧
 kz n = kz n ∧
 (metZ (kz n) (↑i : Int) (0 : Int) (0 : Int) ((zoP (kz n) i).fst, (zoP (kz n) i).snd)).fst = (zoP (kz n) j).fst ∧
 (∀ (o : Nat),
 o < nat_lit 49 →
 (metZ (kz n) (↑i : Int) (0 : Int) (0 : Int) ((zoP (kz n) i).fst, (zoP (kz n) i).snd)).snd o =
 (zoP (kz n) j).snd o) ∧
 false = false ∧
 List.map
 (fun (j : Nat) =>
 [D.i (itvLo (topN (kz n)) false (fun (x : Nat) => (0 : Int)) (↑j : Int)),
 D.i (itvHi (topN (kz n)) false (fun (x : Nat) => (0 : Int)) (↑j : Int))])
 (List.range (topN (kz n)).toNat) =
 List.map
 (fun (j : Nat) =>
 [D.i (itvLo (topN (kz n)) false (fun (x : Nat) => (0 : Int)) (↑j : Int)),
 D.i (itvHi (topN (kz n)) false (fun (x : Nat) => (0 : Int)) (↑j : Int))])
 (List.range (topN (kz n)).toNat) ∧
 topN (kz n) = topN (kz n) ∧ false = false ∧ ∀ (o : Nat), o < nat_lit 49 → (0 : Int) = (0 : Int)) ∧
 (decide ((↑i : Int) < kz n) = false →
 ∃ (i_1 : Bool),
 True ∧
 row.rows = row.rows ∧
 kz n = kz n ∧
 false = (s0Z (kz n) b).fst ∧
 List.map
 (fun (j : Nat) =>
 [D.i (itvLo (topN (kz n)) false (fun (x : Nat) => (0 : Int)) (↑j : Int)),
 D.i (itvHi (topN (kz n)) false (fun (x : Nat) => (0 : Int)) (↑j : Int))])
 (List.range (topN (kz n)).toNat) =
 List.map
 (fun (j : Nat) =>
 [D.i (itvLo (kz n) (s0Z (kz n) b).fst (s0Z (kz n) b).snd (↑j : Int)),
 D.i (itvHi (kz n) (s0Z (kz n) b).fst (s0Z (kz n) b).snd (↑j : Int))])
 (List.range (kz n).toNat) ∧
 topN (kz n) = kz n ∧
 false = (s0Z (kz n) b).fst ∧
 (∀ (o : Nat), o < nat_lit 49 → (0 : Int) = (s0Z (kz n) b).snd o) ∧
 kz n = kz n ∧
 (zoP (kz n) i).fst = (s0Z (kz n) b).fst ∧
 ∀ (o : Nat), o < nat_lit 49 → (zoP (kz n) i).snd o = (s0Z (kz n) b).snd o)) ∧
 (b = false →
 ∃ (i : Bool),
 True ∧
 row.rows = row.rows ∧
 kz n = kz n ∧
 false = (s0Z (kz n) b).fst ∧
 List.map (fun (j : Nat) => [D.i (itvLo (kz n) false (topF (kz n)) (↑j : Int)), D.i (itvHi (kz n) false (topF (kz n)) (↑j : Int))])
 (List.range (kz n).toNat) =
 List.map
 (fun (j : Nat) =>
 [D.i (itvLo (kz n) (s0Z (kz n) b).fst (s0Z (kz n) b).snd (↑j : Int)),
 D.i (itvHi (kz n) (s0Z (kz n) b).fst (s0Z (kz n) b).snd (↑j : Int))])
 (List.range (kz n).toNat) ∧
 kz n = kz n ∧
 false = (s0Z (kz n) b).fst ∧
 (∀ (o : Nat), o < nat_lit 49 → topF (kz n) o = (s0Z (kz n) b).snd o) ∧
 kz n = kz n ∧ false = (s0Z (kz n) b).fst ∧ ∀ (o : Nat), o < nat_lit 49 → topF (kz n) o = (s0Z (kz n) b).snd o)) ∧
 ∀ (i : Bool),
 True →
 ((!true) = false ∧ True → Good (kz n) ((s0Z (kz n) b).fst, (s0Z (kz n) b).snd)) ∧
 ((!true) = false ∧ True → (s0Z (kz n) b).fst = (s0Z (kz n) b).fst) ∧
 ((!true) = false ∧ True →
 List.map
 (fun (j : Nat) =>
 [D.i (itvLo (kz n) (s0Z (kz n) b).fst (s0Z (kz n) b).snd (↑j : Int)),
 D.i (itvHi (kz n) (s0Z (kz n) b).fst (s0Z (kz n) b).snd (↑j : Int))])
 (List.range (kz n).toNat) =
 List.map
 (fun (j : Nat) =>
 [D.i (itvLo (kz n) (s0Z (kz n) b).fst (s0Z (kz n) b).snd (↑j : Int)),
 D.i (itvHi (kz n) (s0Z (kz n) b).fst (s0Z (kz n) b).snd (↑j : Int))])
 (List.range (kz n).toNat)) ∧
 ((!true) = false ∧ True → kz n = kz n) ∧
 ((!true) = false ∧ True → (s0Z (kz n) b).fst = (s0Z (kz n) b).fst) ∧
 ((!true) = false ∧ True → ∀ (o : Nat), o < (49 : Nat) → (s0Z (kz n) b).snd o = (s0Z (kz n) b).snd o) ∧
 ((!true || !true) = false ∧ True → Good (topN (kz n)) (true, fun (x : Nat) => (0 : Int))) ∧
 ((!true || !true) = false ∧ True → true = true) ∧
 ((!true || !true) = false ∧ True →
 List.map
 (fun (j : Nat) =>
 [D.i (itvLo (topN (kz n)) true (fun (x : Nat) => (0 : Int)) (↑j : Int)),
 D.i (itvHi (topN (kz n)) true (fun (x : Nat) => (0 : Int)) (↑j : Int))])
 (List.range (topN (kz n)).toNat) =
 List.map
 (fun (j : Nat) =>
 [D.i (itvLo (topN (kz n)) true (fun (x : Nat) => (0 : Int)) (↑j : Int)),
 D.i (itvHi (topN (kz n)) true (fun (x : Nat) => (0 : Int)) (↑j : Int))])
 (List.range (topN (kz n)).toNat)) ∧
 ((!true || !true) = false ∧ True → kz n = topN (kz n)) ∧
 ((!true || !true) = false ∧ True → true = true) ∧
 ((!true || !true) = false ∧ True → ∀ (o : Nat), o < (49 : Nat) → (0 : Int) = (0 : Int)) ∧
 ((!true || !true || !true) = true → false = true) ∧
 ((!true || !true || !true) = false →
 Good (kz n) ((s0Z (kz n) b).fst, (s0Z (kz n) b).snd) ∧
 (s0Z (kz n) b).fst = (s0Z (kz n) b).fst ∧
 List.map
 (fun (j : Nat) =>
 [D.i (itvLo (kz n) (s0Z (kz n) b).fst (s0Z (kz n) b).snd (↑j : Int)),
 D.i (itvHi (kz n) (s0Z (kz n) b).fst (s0Z (kz n) b).snd (↑j : Int))])
 (List.range (kz n).toNat) =
 List.map
 (fun (j : Nat) =>
 [D.i (itvLo (kz n) (s0Z (kz n) b).fst (s0Z (kz n) b).snd (↑j : Int)),
 D.i (itvHi (kz n) (s0Z (kz n) b).fst (s0Z (kz n) b).snd (↑j : Int))])
 (List.range (kz n).toNat) ∧
 kz n = kz n ∧
 (s0Z (kz n) b).fst = (s0Z (kz n) b).fst ∧
 (∀ (o : Nat), o < (49 : Nat) → (s0Z (kz n) b).snd o = (s0Z (kz n) b).snd o) ∧ true = true)) (by kernel_rfl) ?_
    simp only [raw0, true_and, and_true, implies_true, Nat.mul_one, Int.toNat_natCast, c7, decide_eq_true_eq, decide_eq_false_iff_not, Nat.zero_add, forall_const, Nat.le_eq, at_iff, bne_iff_ne, bne_eq_false_iff_eq, and_self, and_self_left, Nat.reduceAdd]
    have hk := kz_in n
    have htop : topN (kz n) = kz n := by unfold topN; omega
    have ek : IntKind.i64.wrap ((IntKind.u64.wrap n).tmod 7) = kz n := rfl
    rw [ek, htop]
    have g0 := s0_good hk b
    have gA := good_actsZ (d := row) g0
    refine ⟨⟨true, rfl, rfl, rfl, fun _ _ => rfl, rfl, fun _ _ => rfl⟩, ⟨fun hb => ⟨⟨0, Nat.zero_le _, rfl, rfl, fun _ _ => rfl⟩, fun i hi => ⟨fun h => ?_, fun h => ?_⟩⟩, fun hb => ?_⟩, fun _ => g0, fun _ => good_none hk true, fun _ => rfl, (fun h => by simp at h), fun _ => g0⟩
    · have g := zoP_good hk i
      have ex := isVar_of (x := (i : Int)) hk (by omega)
      have e : metZ (kz n) i 0 0 ((zoP (kz n) i).1, (zoP (kz n) i).2) = zoP (kz n) (i + 1) := met_nought (by omega) _
      rw [e]
      exact ⟨g, ex, by omega, i + 1, by omega, by omega, wr _ (by omega), rfl, fun _ _ => rfl⟩
    · have hz := zo_same hk
      have e : s0Z (kz n) b = (false, fun _ => 0) := if_pos hb
      rw [show i = (kz n).toNat by omega, e]
      exact ⟨true, rfl, rfl, rfl, rfl, fun _ _ => rfl, hz.1, hz.2⟩
    · have e : s0Z (kz n) b = (false, topF (kz n)) := if_neg (by rw [hb]; simp)
      rw [e]
      exact ⟨true, rfl, rfl, rfl, fun _ _ => rfl, rfl, fun _ _ => rfl⟩
  · trivial
def njoinsS : FSpec := fun ds _ => match ds with
  | [.i n, .d ra, .d rb] => some { val := .one (.sc (.bool (.sym (true)))), vc := [] }
  | _ => none
def njoinsC : Con := con [iA, .sc (.rows 50), .sc (.rows 50)] njoinsS
theorem njoins_ok : ConOK Try.prog 4 njoinsC := by
  refine fn_ob tt_ok mixed Try.func4 rfl (fun _ _ => by kernel_rfl) (A := fun ds => ⟨fun _ => Cons.of [(13, nzerosC), (19, zerosNC), (18, napplyC), (15, meetsC), (20, njoinC), (21, rjoinC), (16, likeC), (22, nwidenC), (23, rwidenC), (24, nwithinC), (25, rwithinC), (17, nnoneC)], fun _ => none, fun k => match k, ds with | 4, [.i n, .d ra, .d rb] => some { ι := Bool, pre := fun _ _ => True, μ := fun _ => 0, st := fun s _ => famR s [(7, .one (.sc (.int .i64 (.sym (kz n))))), (10, .one (.sc (.bool (.sym (true))))), (13, .one (.sc (.bool (.sym (true))))), (11, .one (.sc (.ptr (s.nx - 1) (.lit 0)))), (12, .one (.sc (.ptr (s.nx - 2) (.lit 0))))] [8, 9] [(idOf s 8, .own 30 ([.c (.bool (.sym (ZO (kz n) ra : Zs).1)), .c (.rows 53 (itD (kz n).toNat (kz n) (ZO (kz n) ra))), .c (.int .i64 (.sym (kz n))), .c (.bool (.sym (ZO (kz n) ra : Zs).1)), .ints .i64 (.lit 49) (ZO (kz n) ra : Zs).2])), (idOf s 9, .own 32 (zs (.sym (kz n)) (.sym (ZO (kz n) ra : Zs).1) (ZO (kz n) ra : Zs).2)), (s.nx - 1, .own 30 ([.c (.bool (.sym (ZO (kz n) rb : Zs).1)), .c (.rows 53 (itD (kz n).toNat (kz n) (ZO (kz n) rb))), .c (.int .i64 (.sym (kz n))), .c (.bool (.sym (ZO (kz n) rb : Zs).1)), .ints .i64 (.lit 49) (ZO (kz n) rb : Zs).2])), (s.nx - 2, .own 32 (zs (.sym (kz n)) (.sym (ZO (kz n) rb : Zs).1) (ZO (kz n) rb : Zs).2))] [] } | _, _ => none⟩) (fun _ _ => (cons_cons nzeros_ok (cons_cons zerosN_ok (cons_cons napply_ok (cons_cons meets_ok (cons_cons njoin_ok (cons_cons rjoin_ok (cons_cons like_ok (cons_cons nwiden_ok (cons_cons rwiden_ok (cons_cons nwithin_ok (cons_cons rwithin_ok (cons_cons nnone_ok cons_nil))))))))))))) (by kernel_rfl) ?_
  intro ds fr
  unfold njoinsS
  split
  · rename_i n ra rb
    refine kmp (q := ((0 : Int) ≤ IntKind.i64.wrap ((IntKind.u64.wrap n).tmod (7 : Int)) ∧ IntKind.i64.wrap ((IntKind.u64.wrap n).tmod (7 : Int)) ≤ (6 : Int)) ∧
 Good (topN (IntKind.i64.wrap ((IntKind.u64.wrap n).tmod (7 : Int)))) (false, fun (x : Nat) => (0 : Int)) ∧
 false = false ∧
 List.map
 (fun (j : Nat) =>
 [D.i (itvLo (topN (IntKind.i64.wrap ((IntKind.u64.wrap n).tmod (7 : Int)))) false (fun (x : Nat) => (0 : Int)) (↑j : Int)),
 D.i (itvHi (topN (IntKind.i64.wrap ((IntKind.u64.wrap n).tmod (7 : Int)))) false (fun (x : Nat) => (0 : Int)) (↑j : Int))])
 (List.range (topN (IntKind.i64.wrap ((IntKind.u64.wrap n).tmod (7 : Int)))).toNat) =
 List.map
 (fun (j : Nat) =>
 [D.i (itvLo (topN (IntKind.i64.wrap ((IntKind.u64.wrap n).tmod (7 : Int)))) false (fun (x : Nat) => (0 : Int)) (↑j : Int)),
 D.i (itvHi (topN (IntKind.i64.wrap ((IntKind.u64.wrap n).tmod (7 : Int)))) false (fun (x : Nat) => (0 : Int)) (↑j : Int))])
 (List.range (topN (IntKind.i64.wrap ((IntKind.u64.wrap n).tmod (7 : Int)))).toNat) ∧
 IntKind.i64.wrap ((IntKind.u64.wrap n).tmod (7 : Int)) = topN (IntKind.i64.wrap ((IntKind.u64.wrap n).tmod (7 : Int))) ∧
 false = false ∧
 (∀ (o : Nat), o < (49 : Nat) → (0 : Int) = (0 : Int)) ∧
 (((0 : Int) ≤ IntKind.i64.wrap ((IntKind.u64.wrap n).tmod (7 : Int)) ∧ IntKind.i64.wrap ((IntKind.u64.wrap n).tmod (7 : Int)) ≤ (6 : Int)) ∧
 Good (topN (IntKind.i64.wrap ((IntKind.u64.wrap n).tmod (7 : Int)))) (false, fun (x : Nat) => (0 : Int)) ∧
 false = false ∧
 List.map
 (fun (j : Nat) =>
 [D.i (itvLo (topN (IntKind.i64.wrap ((IntKind.u64.wrap n).tmod (7 : Int)))) false (fun (x : Nat) => (0 : Int)) (↑j : Int)),
 D.i (itvHi (topN (IntKind.i64.wrap ((IntKind.u64.wrap n).tmod (7 : Int)))) false (fun (x : Nat) => (0 : Int)) (↑j : Int))])
 (List.range (topN (IntKind.i64.wrap ((IntKind.u64.wrap n).tmod (7 : Int)))).toNat) =
 List.map
 (fun (j : Nat) =>
 [D.i (itvLo (topN (IntKind.i64.wrap ((IntKind.u64.wrap n).tmod (7 : Int)))) false (fun (x : Nat) => (0 : Int)) (↑j : Int)),
 D.i (itvHi (topN (IntKind.i64.wrap ((IntKind.u64.wrap n).tmod (7 : Int)))) false (fun (x : Nat) => (0 : Int)) (↑j : Int))])
 (List.range (topN (IntKind.i64.wrap ((IntKind.u64.wrap n).tmod (7 : Int)))).toNat) ∧
 IntKind.i64.wrap ((IntKind.u64.wrap n).tmod (7 : Int)) = topN (IntKind.i64.wrap ((IntKind.u64.wrap n).tmod (7 : Int))) ∧
 false = false ∧
 (∀ (o : Nat), o < (49 : Nat) → (0 : Int) = (0 : Int)) ∧
 ∃ (i : Bool),
 True ∧
 IntKind.i64.wrap ((IntKind.u64.wrap n).tmod (7 : Int)) = kz n ∧
 true = true ∧
 true = true ∧
 (actsZ (topN (IntKind.i64.wrap ((IntKind.u64.wrap n).tmod (7 : Int)))) ra (false, fun (x : Nat) => (0 : Int))).fst =
 (ZO (kz n) ra).fst ∧
 List.map
 (fun (j : Nat) =>
 [D.i
 (itvLo (topN (IntKind.i64.wrap ((IntKind.u64.wrap n).tmod (7 : Int))))
 (actsZ (topN (IntKind.i64.wrap ((IntKind.u64.wrap n).tmod (7 : Int)))) ra
 (false, fun (x : Nat) => (0 : Int))).fst
 (actsZ (topN (IntKind.i64.wrap ((IntKind.u64.wrap n).tmod (7 : Int)))) ra
 (false, fun (x : Nat) => (0 : Int))).snd
 (↑j : Int)),
 D.i
 (itvHi (topN (IntKind.i64.wrap ((IntKind.u64.wrap n).tmod (7 : Int))))
 (actsZ (topN (IntKind.i64.wrap ((IntKind.u64.wrap n).tmod (7 : Int)))) ra
 (false, fun (x : Nat) => (0 : Int))).fst
 (actsZ (topN (IntKind.i64.wrap ((IntKind.u64.wrap n).tmod (7 : Int)))) ra
 (false, fun (x : Nat) => (0 : Int))).snd
 (↑j : Int))])
 (List.range (topN (IntKind.i64.wrap ((IntKind.u64.wrap n).tmod (7 : Int)))).toNat) =
 List.map
 (fun (j : Nat) =>
 [D.i (itvLo (kz n) (ZO (kz n) ra).fst (ZO (kz n) ra).snd (↑j : Int)),
 D.i (itvHi (kz n) (ZO (kz n) ra).fst (ZO (kz n) ra).snd (↑j : Int))])
 (List.range (kz n).toNat) ∧
 topN (IntKind.i64.wrap ((IntKind.u64.wrap n).tmod (7 : Int))) = kz n ∧
 (actsZ (topN (IntKind.i64.wrap ((IntKind.u64.wrap n).tmod (7 : Int)))) ra
 (false, fun (x : Nat) => (0 : Int))).fst =
 (ZO (kz n) ra).fst ∧
 (∀ (o : Nat),
 o < nat_lit 49 →
 (actsZ (topN (IntKind.i64.wrap ((IntKind.u64.wrap n).tmod (7 : Int)))) ra
 (false, fun (x : Nat) => (0 : Int))).snd
 o =
 (ZO (kz n) ra).snd o) ∧
 topN (IntKind.i64.wrap ((IntKind.u64.wrap n).tmod (7 : Int))) = kz n ∧
 (actsZ (topN (IntKind.i64.wrap ((IntKind.u64.wrap n).tmod (7 : Int)))) ra
 (false, fun (x : Nat) => (0 : Int))).fst =
 (ZO (kz n) ra).fst ∧
 (∀ (o : Nat),
 o < nat_lit 49 →
 (actsZ (topN (IntKind.i64.wrap ((IntKind.u64.wrap n).tmod (7 : Int)))) ra
 (false, fun (x : Nat) => (0 : Int))).snd
 o =
 (ZO (kz n) ra).snd o) ∧
 (actsZ (topN (IntKind.i64.wrap ((IntKind.u64.wrap n).tmod (7 : Int)))) rb
 (false, fun (x : Nat) => (0 : Int))).fst =
 (ZO (kz n) rb).fst ∧
 List.map
 (fun (j : Nat) =>
 [D.i
 (itvLo (topN (IntKind.i64.wrap ((IntKind.u64.wrap n).tmod (7 : Int))))
 (actsZ (topN (IntKind.i64.wrap ((IntKind.u64.wrap n).tmod (7 : Int)))) rb
 (false, fun (x : Nat) => (0 : Int))).fst
 (actsZ (topN (IntKind.i64.wrap ((IntKind.u64.wrap n).tmod (7 : Int)))) rb
 (false, fun (x : Nat) => (0 : Int))).snd
 (↑j : Int)),
 D.i
 (itvHi (topN (IntKind.i64.wrap ((IntKind.u64.wrap n).tmod (7 : Int))))
 (actsZ (topN (IntKind.i64.wrap ((IntKind.u64.wrap n).tmod (7 : Int)))) rb
 (false, fun (x : Nat) => (0 : Int))).fst
 (actsZ (topN (IntKind.i64.wrap ((IntKind.u64.wrap n).tmod (7 : Int)))) rb
 (false, fun (x : Nat) => (0 : Int))).snd
 (↑j : Int))])
 (List.range (topN (IntKind.i64.wrap ((IntKind.u64.wrap n).tmod (7 : Int)))).toNat) =
 List.map
 (fun (j : Nat) =>
 [D.i (itvLo (kz n) (ZO (kz n) rb).fst (ZO (kz n) rb).snd (↑j : Int)),
 D.i (itvHi (kz n) (ZO (kz n) rb).fst (ZO (kz n) rb).snd (↑j : Int))])
 (List.range (kz n).toNat) ∧
 topN (IntKind.i64.wrap ((IntKind.u64.wrap n).tmod (7 : Int))) = kz n ∧
 (actsZ (topN (IntKind.i64.wrap ((IntKind.u64.wrap n).tmod (7 : Int)))) rb
 (false, fun (x : Nat) => (0 : Int))).fst =
 (ZO (kz n) rb).fst ∧
 (∀ (o : Nat),
 o < nat_lit 49 →
 (actsZ (topN (IntKind.i64.wrap ((IntKind.u64.wrap n).tmod (7 : Int)))) rb
 (false, fun (x : Nat) => (0 : Int))).snd
 o =
 (ZO (kz n) rb).snd o) ∧
 topN (IntKind.i64.wrap ((IntKind.u64.wrap n).tmod (7 : Int))) = kz n ∧
 (actsZ (topN (IntKind.i64.wrap ((IntKind.u64.wrap n).tmod (7 : Int)))) rb
 (false, fun (x : Nat) => (0 : Int))).fst =
 (ZO (kz n) rb).fst ∧
 ∀ (o : Nat),
 o < nat_lit 49 →
 (actsZ (topN (IntKind.i64.wrap ((IntKind.u64.wrap n).tmod (7 : Int)))) rb
 (false, fun (x : Nat) => (0 : Int))).snd
 o =
 (ZO (kz n) rb).snd o) ∧
 ∀ (i : Bool),
 True →
 ((!true || !true || !true) = true → false = true) ∧
 ((!true || !true || !true) = false →
 Good (kz n) ((ZO (kz n) ra).fst, (ZO (kz n) ra).snd) ∧
 Good (kz n) ((ZO (kz n) rb).fst, (ZO (kz n) rb).snd) ∧
 (itD (kz n).toNat (kz n) (ZO (kz n) ra)).len ≤ (1000 : Nat) ∧
 kz n = kz n ∧
 Good (kz n) ((ZO (kz n) ra).fst, (ZO (kz n) ra).snd) ∧
 Good (kz n) ((ZO (kz n) rb).fst, (ZO (kz n) rb).snd) ∧
 Good (kz n)
 (jnC (kz n) (ZO (kz n) ra).fst (kz n) (ZO (kz n) rb).fst,
 jnF (kz n) (ZO (kz n) ra).fst (ZO (kz n) ra).snd (kz n) (ZO (kz n) rb).fst (ZO (kz n) rb).snd) ∧
 jnC (kz n) (ZO (kz n) ra).fst (kz n) (ZO (kz n) rb).fst = jnC (kz n) (ZO (kz n) ra).fst (kz n) (ZO (kz n) rb).fst ∧
 List.map
 (fun (j : Nat) =>
 [D.i
 (itvLo (kz n) (jnC (kz n) (ZO (kz n) ra).fst (kz n) (ZO (kz n) rb).fst)
 (jnF (kz n) (ZO (kz n) ra).fst (ZO (kz n) ra).snd (kz n) (ZO (kz n) rb).fst (ZO (kz n) rb).snd)
 (↑j : Int)),
 D.i
 (itvHi (kz n) (jnC (kz n) (ZO (kz n) ra).fst (kz n) (ZO (kz n) rb).fst)
 (jnF (kz n) (ZO (kz n) ra).fst (ZO (kz n) ra).snd (kz n) (ZO (kz n) rb).fst (ZO (kz n) rb).snd)
 (↑j : Int))])
 (List.range (itD (kz n).toNat (kz n) (ZO (kz n) ra)).len) =
 List.map
 (fun (j : Nat) =>
 [D.i
 (itvLo (kz n) (jnC (kz n) (ZO (kz n) ra).fst (kz n) (ZO (kz n) rb).fst)
 (jnF (kz n) (ZO (kz n) ra).fst (ZO (kz n) ra).snd (kz n) (ZO (kz n) rb).fst (ZO (kz n) rb).snd)
 (↑j : Int)),
 D.i
 (itvHi (kz n) (jnC (kz n) (ZO (kz n) ra).fst (kz n) (ZO (kz n) rb).fst)
 (jnF (kz n) (ZO (kz n) ra).fst (ZO (kz n) ra).snd (kz n) (ZO (kz n) rb).fst (ZO (kz n) rb).snd)
 (↑j : Int))])
 (List.range (kz n).toNat) ∧
 kz n = kz n ∧
 (jnZ (kz n) ((ZO (kz n) ra).fst, (ZO (kz n) ra).snd) ((ZO (kz n) rb).fst, (ZO (kz n) rb).snd)).fst =
 jnC (kz n) (ZO (kz n) ra).fst (kz n) (ZO (kz n) rb).fst ∧
 (∀ (o : Nat),
 o < (49 : Nat) →
 (jnZ (kz n) ((ZO (kz n) ra).fst, (ZO (kz n) ra).snd) ((ZO (kz n) rb).fst, (ZO (kz n) rb).snd)).snd o =
 jnF (kz n) (ZO (kz n) ra).fst (ZO (kz n) ra).snd (kz n) (ZO (kz n) rb).fst (ZO (kz n) rb).snd o) ∧
 (true = true ∧ True → Good (kz n) ((ZO (kz n) ra).fst, (ZO (kz n) ra).snd)) ∧
 (true = true ∧ True → Good (kz n) ((ZO (kz n) rb).fst, (ZO (kz n) rb).snd)) ∧
 (true = true ∧ True → (itD (kz n).toNat (kz n) (ZO (kz n) ra)).len ≤ (1000 : Nat)) ∧
 (true = true ∧ True → kz n = kz n) ∧
 (true = true ∧ True → Good (kz n) ((ZO (kz n) ra).fst, (ZO (kz n) ra).snd)) ∧
 (true = true ∧ True → Good (kz n) ((ZO (kz n) rb).fst, (ZO (kz n) rb).snd)) ∧
 (true = true ∧ True →
 Good (kz n)
 (widC (kz n) (ZO (kz n) ra).fst (ZO (kz n) ra).snd (kz n) (ZO (kz n) rb).fst
 (ZO (kz n) rb).snd,
 widF (kz n) (ZO (kz n) ra).fst (ZO (kz n) ra).snd (kz n) (ZO (kz n) rb).fst
 (ZO (kz n) rb).snd)) ∧
 (true = true ∧ True →
 widC (kz n) (ZO (kz n) ra).fst (ZO (kz n) ra).snd (kz n) (ZO (kz n) rb).fst
 (ZO (kz n) rb).snd =
 widC (kz n) (ZO (kz n) ra).fst (ZO (kz n) ra).snd (kz n) (ZO (kz n) rb).fst
 (ZO (kz n) rb).snd) ∧
 (true = true ∧ True →
 List.map
 (fun (j : Nat) =>
 [D.i
 (itvLo (kz n)
 (widC (kz n) (ZO (kz n) ra).fst (ZO (kz n) ra).snd (kz n) (ZO (kz n) rb).fst
 (ZO (kz n) rb).snd)
 (widF (kz n) (ZO (kz n) ra).fst (ZO (kz n) ra).snd (kz n) (ZO (kz n) rb).fst
 (ZO (kz n) rb).snd)
 (↑j : Int)),
 D.i
 (itvHi (kz n)
 (widC (kz n) (ZO (kz n) ra).fst (ZO (kz n) ra).snd (kz n) (ZO (kz n) rb).fst
 (ZO (kz n) rb).snd)
 (widF (kz n) (ZO (kz n) ra).fst (ZO (kz n) ra).snd (kz n) (ZO (kz n) rb).fst
 (ZO (kz n) rb).snd)
 (↑j : Int))])
 (List.range (itD (kz n).toNat (kz n) (ZO (kz n) ra)).len) =
 List.map
 (fun (j : Nat) =>
 [D.i
 (itvLo (kz n)
 (widC (kz n) (ZO (kz n) ra).fst (ZO (kz n) ra).snd (kz n) (ZO (kz n) rb).fst
 (ZO (kz n) rb).snd)
 (widF (kz n) (ZO (kz n) ra).fst (ZO (kz n) ra).snd (kz n) (ZO (kz n) rb).fst
 (ZO (kz n) rb).snd)
 (↑j : Int)),
 D.i
 (itvHi (kz n)
 (widC (kz n) (ZO (kz n) ra).fst (ZO (kz n) ra).snd (kz n) (ZO (kz n) rb).fst
 (ZO (kz n) rb).snd)
 (widF (kz n) (ZO (kz n) ra).fst (ZO (kz n) ra).snd (kz n) (ZO (kz n) rb).fst
 (ZO (kz n) rb).snd)
 (↑j : Int))])
 (List.range (kz n).toNat)) ∧
 (true = true ∧ True → kz n = kz n) ∧
 (true = true ∧ True →
 (wdZ (kz n) ((ZO (kz n) ra).fst, (ZO (kz n) ra).snd)
 ((ZO (kz n) rb).fst, (ZO (kz n) rb).snd)).fst =
 widC (kz n) (ZO (kz n) ra).fst (ZO (kz n) ra).snd (kz n) (ZO (kz n) rb).fst
 (ZO (kz n) rb).snd) ∧
 (true = true ∧ True →
 ∀ (o : Nat),
 o < (49 : Nat) →
 (wdZ (kz n) ((ZO (kz n) ra).fst, (ZO (kz n) ra).snd)
 ((ZO (kz n) rb).fst, (ZO (kz n) rb).snd)).snd
 o =
 widF (kz n) (ZO (kz n) ra).fst (ZO (kz n) ra).snd (kz n) (ZO (kz n) rb).fst
 (ZO (kz n) rb).snd o) ∧
 ((true && true) = true ∧ True → (0 : Int) ≤ kz n ∧ kz n ≤ (6 : Int)) ∧
 ((true && true) = true ∧ True → kz n = kz n) ∧
 ((true && true &&
 withinP (kz n) (ZO (kz n) ra).fst (ZO (kz n) ra).snd (kz n)
 (ZO (kz n) rb).fst (ZO (kz n) rb).snd ==
 withinP (kz n) (ZO (kz n) ra).fst (ZO (kz n) ra).snd (kz n)
 (ZO (kz n) rb).fst (ZO (kz n) rb).snd) =
 true ∧
 True →
 Good (kz n) ((ZO (kz n) ra).fst, (ZO (kz n) ra).snd)) ∧
 ((true && true &&
 withinP (kz n) (ZO (kz n) ra).fst (ZO (kz n) ra).snd (kz n)
 (ZO (kz n) rb).fst (ZO (kz n) rb).snd ==
 withinP (kz n) (ZO (kz n) ra).fst (ZO (kz n) ra).snd (kz n)
 (ZO (kz n) rb).fst (ZO (kz n) rb).snd) =
 true ∧
 True →
 Good (kz n) ((ZO (kz n) rb).fst, (ZO (kz n) rb).snd)) ∧
 ((true && true &&
 withinP (kz n) (ZO (kz n) ra).fst (ZO (kz n) ra).snd (kz n)
 (ZO (kz n) rb).fst (ZO (kz n) rb).snd ==
 withinP (kz n) (ZO (kz n) ra).fst (ZO (kz n) ra).snd (kz n)
 (ZO (kz n) rb).fst (ZO (kz n) rb).snd) =
 true ∧
 True →
 (itD (kz n).toNat (kz n) (ZO (kz n) ra)).len ≤ (1000 : Nat)) ∧
 (true && true &&
 withinP (kz n) (ZO (kz n) ra).fst (ZO (kz n) ra).snd (kz n)
 (ZO (kz n) rb).fst (ZO (kz n) rb).snd ==
 withinP (kz n) (ZO (kz n) ra).fst (ZO (kz n) ra).snd (kz n)
 (ZO (kz n) rb).fst (ZO (kz n) rb).snd &&
 withinP (kz n) (ZO (kz n) ra).fst (ZO (kz n) ra).snd (kz n)
 (jnC (kz n) (ZO (kz n) ra).fst (kz n) (ZO (kz n) rb).fst)
 (jnF (kz n) (ZO (kz n) ra).fst (ZO (kz n) ra).snd (kz n)
 (ZO (kz n) rb).fst (ZO (kz n) rb).snd) &&
 withinP (topN (kz n)) true (fun (x : Nat) => (0 : Int)) (kz n)
 (ZO (kz n) ra).fst (ZO (kz n) ra).snd) =
 true)) (by kernel_rfl) ?_
    simp only [raw0, true_and, and_true, implies_true, Nat.mul_one, Int.toNat_natCast, c7, decide_eq_true_eq, decide_eq_false_iff_not, Nat.zero_add, forall_const, Nat.le_eq, at_iff, bne_iff_ne, bne_eq_false_iff_eq, and_self, and_self_left, Nat.reduceAdd]
    have hk := kz_in n
    have htop : topN (kz n) = kz n := by unfold topN; omega
    have ek : IntKind.i64.wrap ((IntKind.u64.wrap n).tmod 7) = kz n := rfl
    rw [ek, htop]
    have eA : ∀ r, actsZ (kz n) r (false, fun _ => 0) = ZO (kz n) r := fun _ => rfl
    rw [eA, eA]
    have gN := good_none hk false
    have gA := ZO_good hk ra
    have gB := ZO_good hk rb
    generalize ZO (kz n) ra = a at *
    generalize ZO (kz n) rb = b at *
    have hL : (itD (kz n).toNat (kz n) a).len = (kz n).toNat := itD_len _ _ _
    generalize itD (kz n).toNat (kz n) a = L1 at *
    rw [hL]
    have hl : (kz n).toNat ≤ 1000 := by omega
    have gJ := good_jn gA gB
    have gW := good_wd gA gB
    have w1 := wi_iff.2 (wi_jl (n := kz n) a b)
    have q1 : withinP (kz n) true (fun _ => 0) (kz n) a.1 a.2 = true := by unfold withinP; rw [if_pos (by simp)]; simp
    have w2 : withinP (kz n) a.1 a.2 (kz n) (jnC (kz n) a.1 (kz n) b.1) (jnF (kz n) a.1 a.2 (kz n) b.1 b.2) = true := w1
    refine ⟨hk, gN, rfl, ⟨hk, gN, rfl, true, rfl, rfl, rfl, rfl, rfl, fun _ _ => rfl, rfl, rfl, fun _ _ => rfl, rfl, rfl, rfl, rfl, fun _ _ => rfl, rfl, rfl, fun _ _ => rfl⟩, (fun h => by simp at h), fun _ => ?_⟩
    refine ⟨gA, gB, hl, gA, gB, gJ, rfl, rfl, fun _ _ => rfl, gA, gB, hl, gA, gB, gW, rfl, rfl, fun _ _ => rfl, fun _ => hk, fun _ => gA, fun _ => gB, fun _ => hl, ?_⟩
    rw [q1, w2]
    simp
  · trivial
end Go.Proofs.Ytefdfggkhnahiaa.Sx.Z
