/-
  TransSkips: over an edge that does nothing, over an Input.
-/
import Derived.Test.YtlgmofjjjhbgkaaGreatM24
namespace Go.Proofs.YtlgmofjjjhbgkaaGreat.Sx.Z
open Go.RowKit
noncomputable def tskipsS : FSpec := fun ds _ => match ds with
  | [.f v, .d mv, .i mc, .i mr] => some { val := .one (.sc (.bool (.sym (true)))), vc := [(∀ j, j < 2 → -2147483648 ≤ v j ∧ v j ≤ 2147483647)] }
  | _ => none
noncomputable def tskipsC : Con := con [.agg [.ints .i32 2], .agg [.c (.rows 21), .c (.int .i64), .c (.int .u8)]] tskipsS
theorem tskips_ok : ConOK Tryz.prog 5 tskipsC := by
  refine fn_ob tt_ok mixed Tryz.func5 rfl (fun _ _ => by kernel_rfl) (A := fun ds => ⟨fun _ => Cons.of [(7, tstartC), (8, nrow14C), (17, njoinC), (9, tstepC), (11, temptyC), (18, twithinC), (19, iallC), (13, tstepsC)], fun k => match k, ds with | 3, [.f v, .d mv, .i mc, .i mr] => some { ι := Nat, pre := fun _ i => i ≤ 2, μ := fun i => 3 - i, st := fun s i => famR s [(6, .one (.sc (.int .i64 (.sym ((i : Nat)))))), (5, .one (.sc (.rows 31 edKs)))] [2, 3, 4] [(idOf s 5, .gone)] [2, 3] } | _, _ => none, fun k => match k, ds with | 6, [.f v, .d mv, .i mc, .i mr] => some { ι := Nat, pre := fun s i => i < 2 ∧ slotI s 6 = i, μ := fun _ => 0, st := fun s i => famR s [(7, .one (.sc (.ptr (s.nx - 1) (.lit 0))))] [2, 3, 4, 5, 6] [(s.nx - 1, .own 39 ([.c .nils, .c (.rows 35 (grD [edK i])), .c (.rows 3 (.l [[.i 2]]))])), (s.nx + 48, .gone), (s.nx + 56, .gone)] [2, 3] } | 7, [.f v, .d mv, .i mc, .i mr] => some { ι := Nat, pre := fun s i => i < 2 ∧ slotI s 6 = i, μ := fun _ => 0, st := fun s i => famR s [(8, .one (.sc (.ptr (s.nx - 2) (.lit 0))))] [2, 3, 4, 5, 6, 7] [(s.nx - 2, .own 49 ([.c (.bool (.sym ((false, fun _ => 0) : Zs).1)), .c (.rows 53 (itD (2) (2) ((false, fun _ => 0)))), .c (.int .i64 (.sym (2))), .c (.bool (.sym ((false, fun _ => 0) : Zs).1)), .ints .i64 (.lit 49) ((false, fun _ => 0) : Zs).2, .c (.rows 53 (.l [])), .c (.rows 93 (.l []))]))] [2, 3, 7] } | 8, [.f v, .d mv, .i mc, .i mr] => some { ι := Nat, pre := fun s i => i < 2 ∧ slotI s 6 = i, μ := fun _ => 0, st := fun s _ => famR s [] [2, 3, 4, 5, 6, 7, 8] [(idOf s 8, .own 49 ([.c (.bool (.sym (jnV v mc : Zs).1)), .c (.rows 53 (itD (2) (2) (jnV v mc))), .c (.int .i64 (.sym (2))), .c (.bool (.sym (jnV v mc : Zs).1)), .ints .i64 (.lit 49) (jnV v mc : Zs).2, .c (.rows 53 (.l [])), .c (.rows 93 (.l []))]))] [2, 3, 7] } | _, _ => none⟩) (fun _ _ => (cons_cons tstart_ok (cons_cons nrow14_ok (cons_cons njoin_ok (cons_cons tstep_ok (cons_cons tempty_ok (cons_cons twithin_ok (cons_cons iall_ok (cons_cons tsteps_ok cons_nil))))))))) (by kernel_rfl) ?_
  intro ds fr
  unfold tskipsS
  split
  · rename_i v mv mc mr
    refine kmp (q := (∀ (j : Nat), j < (2 : Nat) → (-2147483648 : Int) ≤ v j ∧ v j ≤ (2147483647 : Int)) →
 (∃ (i : Nat),
 i.le (2 : Nat) ∧
 (0 : Nat) + (2 : Nat) ≤
 (D.l
 [[D.i (0 : Int), D.i (1 : Int), D.i (0 : Int), D.i (0 : Int), D.i (0 : Int), D.i (0 : Int), D.i (0 : Int), D.i (0 : Int), D.i (0 : Int), D.l [],
 D.i (0 : Int), D.i (0 : Int), D.i (0 : Int), D.i (0 : Int), D.l [], D.i (0 : Int), D.i (0 : Int), D.i (0 : Int), D.l []],
 [D.i (0 : Int), D.i (1 : Int), D.i (6 : Int), D.i (1 : Int), D.i (0 : Int), D.i (0 : Int), D.i (0 : Int), D.i (0 : Int), D.i (0 : Int),
 D.l [], D.i (0 : Int), D.i (0 : Int), D.i (0 : Int), D.i (0 : Int), D.l [], D.i (0 : Int), D.i (0 : Int), D.i (0 : Int), D.l []]]).len ∧
 (0 : Nat) + (2 : Nat) ≤
 (D.l
 [[D.i (0 : Int), D.i (1 : Int), D.i (0 : Int), D.i (0 : Int), D.i (0 : Int), D.i (0 : Int), D.i (0 : Int), D.i (0 : Int), D.i (0 : Int),
 D.l [], D.i (0 : Int), D.i (0 : Int), D.i (0 : Int), D.i (0 : Int), D.l [], D.i (0 : Int), D.i (0 : Int), D.i (0 : Int), D.l []],
 [D.i (0 : Int), D.i (1 : Int), D.i (6 : Int), D.i (1 : Int), D.i (0 : Int), D.i (0 : Int), D.i (0 : Int), D.i (0 : Int), D.i (0 : Int),
 D.l [], D.i (0 : Int), D.i (0 : Int), D.i (0 : Int), D.i (0 : Int), D.l [], D.i (0 : Int), D.i (0 : Int), D.i (0 : Int), D.l []]]).len ∧
 (0 : Int) = (↑i : Int) ∧
 List.drop ((0 : Nat))
 (List.take ((0 : Nat) + (2 : Nat))
 [[D.i (0 : Int), D.i (1 : Int), D.i (0 : Int), D.i (0 : Int), D.i (0 : Int), D.i (0 : Int), D.i (0 : Int), D.i (0 : Int), D.i (0 : Int),
 D.l [], D.i (0 : Int), D.i (0 : Int), D.i (0 : Int), D.i (0 : Int), D.l [], D.i (0 : Int), D.i (0 : Int), D.i (0 : Int), D.l []],
 [D.i (0 : Int), D.i (1 : Int), D.i (6 : Int), D.i (1 : Int), D.i (0 : Int), D.i (0 : Int), D.i (0 : Int), D.i (0 : Int), D.i (0 : Int),
 D.l [], D.i (0 : Int), D.i (0 : Int), D.i (0 : Int), D.i (0 : Int), D.l [], D.i (0 : Int), D.i (0 : Int), D.i (0 : Int), D.l []]]) =
 [edK (0 : Nat), edK (1 : Nat)] ∧
 false = false ∧ (∀ (o : Nat), o < (2 : Nat) → v o = v o) ∧ mv.rows = mv.rows ∧ mc = mc ∧ mr = mr) ∧
 ∀ (i : Nat),
 i.le (2 : Nat) →
 (decide ((↑i : Int) < (2 : Int)) = true →
 (((0 : Int) ≤ IntKind.i64.wrap ((↑i : Int) + (1 : Int)) ∧ IntKind.i64.wrap ((↑i : Int) + (1 : Int)) ≤ (↑edKs.len : Int)) ∧
 ((0 : Int) ≤ (↑i : Int) ∧ (↑i : Int) ≤ (↑(IntKind.i64.wrap ((↑i : Int) + (1 : Int))).toNat : Int)) ∧
 ∃ (i_1 : Nat),
 (i_1 < (2 : Nat) ∧ (↑i : Int) = (↑i_1 : Int)) ∧
 (0 : Nat) + (1 : Nat) ≤ (D.l [[D.i (2 : Int), edKs.sub (↑i : Int).toNat (IntKind.i64.wrap ((↑i : Int) + (1 : Int))).toNat, D.l []]]).len ∧
 (0 : Nat) + (1 : Nat) ≤ (D.l [[D.i (2 : Int)]]).len ∧
 (0 : Nat) + (1 : Nat) ≤ (D.l [[D.i (2 : Int)]]).len ∧
 (0 : Nat) + (1 : Nat) ≤
 (D.l [[D.i (2 : Int), edKs.sub (↑i : Int).toNat (IntKind.i64.wrap ((↑i : Int) + (1 : Int))).toNat, D.l []]]).len ∧
 (0 : Nat) + (1 : Nat) ≤
 (D.l [[D.i (2 : Int), edKs.sub (↑i : Int).toNat (IntKind.i64.wrap ((↑i : Int) + (1 : Int))).toNat, D.l []]]).len ∧
 (0 : Nat) + (1 : Nat) ≤ (D.l [[D.i (2 : Int)]]).len ∧
 false = false ∧
 [edK (0 : Nat), edK (1 : Nat)] = [edK (0 : Nat), edK (1 : Nat)] ∧
 (↑i : Int) = (↑i : Int) ∧
 List.drop ((0 : Nat))
 (List.take ((0 : Nat) + (1 : Nat))
 [[D.i (2 : Int), edKs.sub (↑i : Int).toNat (IntKind.i64.wrap ((↑i : Int) + (1 : Int))).toNat, D.l []]]) =
 [[D.i (2 : Int), D.l [edK i_1], D.l []]] ∧
 List.drop ((0 : Nat)) (List.take ((0 : Nat) + (1 : Nat)) [[D.i (2 : Int)]]) = [[D.i (2 : Int)]] ∧
 (∀ (o : Nat), o < (2 : Nat) → v o = v o) ∧ mv.rows = mv.rows ∧ mc = mc ∧ mr = mr) ∧
 ∀ (i_1 : Nat),
 i_1 < (2 : Nat) ∧ (↑i : Int) = (↑i_1 : Int) →
 ((D.l []).len ≤ (1000 : Nat) ∧
 ∃ (i_2 : Nat),
 (i_2 < (2 : Nat) ∧ (↑i : Int) = (↑i_2 : Int)) ∧
 false = false ∧
 [edK (0 : Nat), edK (1 : Nat)] = [edK (0 : Nat), edK (1 : Nat)] ∧
 (↑i : Int) = (↑i : Int) ∧
 false = false ∧
 List.map
 (fun (j : Nat) =>
 [D.i (itvLo (topN (varP (D.l [[D.i (2 : Int)]]) (0 : Int))) false (fun (x : Nat) => (0 : Int)) (↑j : Int)),
 D.i (itvHi (topN (varP (D.l [[D.i (2 : Int)]]) (0 : Int))) false (fun (x : Nat) => (0 : Int)) (↑j : Int))])
 (List.range (topN (varP (D.l [[D.i (2 : Int)]]) (0 : Int))).toNat) =
 List.map
 (fun (j : Nat) =>
 [D.i (itvLo (2 : Int) false (fun (x : Nat) => (0 : Int)) (↑j : Int)),
 D.i (itvHi (2 : Int) false (fun (x : Nat) => (0 : Int)) (↑j : Int))])
 (List.range (2 : Nat)) ∧
 topN (varP (D.l [[D.i (2 : Int)]]) (0 : Int)) = (2 : Int) ∧
 false = false ∧
 (∀ (o : Nat), o < (49 : Nat) → (0 : Int) = (0 : Int)) ∧
 List.replicate (D.l []).len [D.i (0 : Int), D.i (0 : Int)] = [] ∧
 List.replicate (D.l []).len [D.i (1 : Int)] = [] ∧
 (∀ (o : Nat), o < (2 : Nat) → v o = v o) ∧
 mv.rows = mv.rows ∧
 mc = mc ∧
 mr = mr ∧
 [[D.i (2 : Int), D.l [edK i_1], D.l []]] = [[D.i (2 : Int), D.l [edK i_1], D.l []]] ∧
 [[D.i (2 : Int)]] = [[D.i (2 : Int)]]) ∧
 ∀ (i_2 : Nat),
 i_2 < (2 : Nat) ∧ (↑i : Int) = (↑i_2 : Int) →
 ((0 : Nat) + (2 : Nat) ≤
 (D.l
 [[D.i (IntKind.i64.wrap (v ((0 : Nat) + (0 : Nat) * (1 : Nat))))],
 [D.i (IntKind.i64.wrap (v ((0 : Nat) + (1 : Nat) * (1 : Nat))))]]).len ∧
 ((D.l
 [[D.i (IntKind.i64.wrap (v ((0 : Nat) + (0 : Nat) * (1 : Nat))))],
 [D.i (IntKind.i64.wrap (v ((0 : Nat) + (1 : Nat) * (1 : Nat))))]]).sub
 (0 : Nat) ((0 : Nat) + (2 : Nat))).len ≤
 (6 : Nat) ∧
 (0 : Nat) + (2 : Nat) ≤ (D.l [[D.i (0 : Int)], [D.i (mc.tmod (1000 : Int))]]).len ∧
 ((D.l [[D.i (0 : Int)], [D.i (mc.tmod (1000 : Int))]]).sub (0 : Nat) ((0 : Nat) + (2 : Nat))).len ≤ (6 : Nat) ∧
 Good
 (↑((D.l
 [[D.i (IntKind.i64.wrap (v ((0 : Nat) + (0 : Nat) * (1 : Nat))))],
 [D.i (IntKind.i64.wrap (v ((0 : Nat) + (1 : Nat) * (1 : Nat))))]]).sub
 (0 : Nat) ((0 : Nat) + (2 : Nat))).len :
 Int)
 ((rowZ
 (↑((D.l
 [[D.i (IntKind.i64.wrap (v ((0 : Nat) + (0 : Nat) * (1 : Nat))))],
 [D.i (IntKind.i64.wrap (v ((0 : Nat) + (1 : Nat) * (1 : Nat))))]]).sub
 (0 : Nat) ((0 : Nat) + (2 : Nat))).len :
 Int)
 (fun (j : Nat) =>
 vD
 ((D.l
 [[D.i (IntKind.i64.wrap (v ((0 : Nat) + (0 : Nat) * (1 : Nat))))],
 [D.i (IntKind.i64.wrap (v ((0 : Nat) + (1 : Nat) * (1 : Nat))))]]).sub
 (0 : Nat) ((0 : Nat) + (2 : Nat)))
 (↑j : Int))
 ((D.l
 [[D.i (IntKind.i64.wrap (v ((0 : Nat) + (0 : Nat) * (1 : Nat))))],
 [D.i (IntKind.i64.wrap (v ((0 : Nat) + (1 : Nat) * (1 : Nat))))]]).sub
 (0 : Nat) ((0 : Nat) + (2 : Nat))).len).fst,
 (rowZ
 (↑((D.l
 [[D.i (IntKind.i64.wrap (v ((0 : Nat) + (0 : Nat) * (1 : Nat))))],
 [D.i (IntKind.i64.wrap (v ((0 : Nat) + (1 : Nat) * (1 : Nat))))]]).sub
 (0 : Nat) ((0 : Nat) + (2 : Nat))).len :
 Int)
 (fun (j : Nat) =>
 vD
 ((D.l
 [[D.i (IntKind.i64.wrap (v ((0 : Nat) + (0 : Nat) * (1 : Nat))))],
 [D.i (IntKind.i64.wrap (v ((0 : Nat) + (1 : Nat) * (1 : Nat))))]]).sub
 (0 : Nat) ((0 : Nat) + (2 : Nat)))
 (↑j : Int))
 ((D.l
 [[D.i (IntKind.i64.wrap (v ((0 : Nat) + (0 : Nat) * (1 : Nat))))],
 [D.i (IntKind.i64.wrap (v ((0 : Nat) + (1 : Nat) * (1 : Nat))))]]).sub
 (0 : Nat) ((0 : Nat) + (2 : Nat))).len).snd) ∧
 Good (↑((D.l [[D.i (0 : Int)], [D.i (mc.tmod (1000 : Int))]]).sub (0 : Nat) ((0 : Nat) + (2 : Nat))).len : Int)
 ((rowZ (↑((D.l [[D.i (0 : Int)], [D.i (mc.tmod (1000 : Int))]]).sub (0 : Nat) ((0 : Nat) + (2 : Nat))).len : Int)
 (fun (j : Nat) =>
 vD ((D.l [[D.i (0 : Int)], [D.i (mc.tmod (1000 : Int))]]).sub (0 : Nat) ((0 : Nat) + (2 : Nat))) (↑j : Int))
 ((D.l [[D.i (0 : Int)], [D.i (mc.tmod (1000 : Int))]]).sub (0 : Nat) ((0 : Nat) + (2 : Nat))).len).fst,
 (rowZ (↑((D.l [[D.i (0 : Int)], [D.i (mc.tmod (1000 : Int))]]).sub (0 : Nat) ((0 : Nat) + (2 : Nat))).len : Int)
 (fun (j : Nat) =>
 vD ((D.l [[D.i (0 : Int)], [D.i (mc.tmod (1000 : Int))]]).sub (0 : Nat) ((0 : Nat) + (2 : Nat))) (↑j : Int))
 ((D.l [[D.i (0 : Int)], [D.i (mc.tmod (1000 : Int))]]).sub (0 : Nat) ((0 : Nat) + (2 : Nat))).len).snd) ∧
 (itD
 ((D.l
 [[D.i (IntKind.i64.wrap (v ((0 : Nat) + (0 : Nat) * (1 : Nat))))],
 [D.i (IntKind.i64.wrap (v ((0 : Nat) + (1 : Nat) * (1 : Nat))))]]).sub
 (0 : Nat) ((0 : Nat) + (2 : Nat))).len
 (↑((D.l
 [[D.i (IntKind.i64.wrap (v ((0 : Nat) + (0 : Nat) * (1 : Nat))))],
 [D.i (IntKind.i64.wrap (v ((0 : Nat) + (1 : Nat) * (1 : Nat))))]]).sub
 (0 : Nat) ((0 : Nat) + (2 : Nat))).len :
 Int)
 (rowZ
 (↑((D.l
 [[D.i (IntKind.i64.wrap (v ((0 : Nat) + (0 : Nat) * (1 : Nat))))],
 [D.i (IntKind.i64.wrap (v ((0 : Nat) + (1 : Nat) * (1 : Nat))))]]).sub
 (0 : Nat) ((0 : Nat) + (2 : Nat))).len :
 Int)
 (fun (j : Nat) =>
 vD
 ((D.l
 [[D.i (IntKind.i64.wrap (v ((0 : Nat) + (0 : Nat) * (1 : Nat))))],
 [D.i (IntKind.i64.wrap (v ((0 : Nat) + (1 : Nat) * (1 : Nat))))]]).sub
 (0 : Nat) ((0 : Nat) + (2 : Nat)))
 (↑j : Int))
 ((D.l
 [[D.i (IntKind.i64.wrap (v ((0 : Nat) + (0 : Nat) * (1 : Nat))))],
 [D.i (IntKind.i64.wrap (v ((0 : Nat) + (1 : Nat) * (1 : Nat))))]]).sub
 (0 : Nat) ((0 : Nat) + (2 : Nat))).len)).len ≤
 (1000 : Nat) ∧
 ∃ (i_3 : Nat),
 (i_3 < (2 : Nat) ∧ (↑i : Int) = (↑i_3 : Int)) ∧
 false = false ∧
 [edK (0 : Nat), edK (1 : Nat)] = [edK (0 : Nat), edK (1 : Nat)] ∧
 (↑i : Int) = (↑i : Int) ∧
 jnC
 (↑((D.l
 [[D.i (IntKind.i64.wrap (v ((0 : Nat) + (0 : Nat) * (1 : Nat))))],
 [D.i (IntKind.i64.wrap (v ((0 : Nat) + (1 : Nat) * (1 : Nat))))]]).sub
 (0 : Nat) ((0 : Nat) + (2 : Nat))).len :
 Int)
 (rowZ
 (↑((D.l
 [[D.i (IntKind.i64.wrap (v ((0 : Nat) + (0 : Nat) * (1 : Nat))))],
 [D.i (IntKind.i64.wrap (v ((0 : Nat) + (1 : Nat) * (1 : Nat))))]]).sub
 (0 : Nat) ((0 : Nat) + (2 : Nat))).len :
 Int)
 (fun (j : Nat) =>
 vD
 ((D.l
 [[D.i (IntKind.i64.wrap (v ((0 : Nat) + (0 : Nat) * (1 : Nat))))],
 [D.i (IntKind.i64.wrap (v ((0 : Nat) + (1 : Nat) * (1 : Nat))))]]).sub
 (0 : Nat) ((0 : Nat) + (2 : Nat)))
 (↑j : Int))
 ((D.l
 [[D.i (IntKind.i64.wrap (v ((0 : Nat) + (0 : Nat) * (1 : Nat))))],
 [D.i (IntKind.i64.wrap (v ((0 : Nat) + (1 : Nat) * (1 : Nat))))]]).sub
 (0 : Nat) ((0 : Nat) + (2 : Nat))).len).fst
 (↑((D.l [[D.i (0 : Int)], [D.i (mc.tmod (1000 : Int))]]).sub (0 : Nat) ((0 : Nat) + (2 : Nat))).len :
 Int)
 (rowZ
 (↑((D.l [[D.i (0 : Int)], [D.i (mc.tmod (1000 : Int))]]).sub (0 : Nat)
 ((0 : Nat) + (2 : Nat))).len :
 Int)
 (fun (j : Nat) =>
 vD ((D.l [[D.i (0 : Int)], [D.i (mc.tmod (1000 : Int))]]).sub (0 : Nat) ((0 : Nat) + (2 : Nat)))
 (↑j : Int))
 ((D.l [[D.i (0 : Int)], [D.i (mc.tmod (1000 : Int))]]).sub (0 : Nat)
 ((0 : Nat) + (2 : Nat))).len).fst =
 (jnV v mc).fst ∧
 List.map
 (fun (j : Nat) =>
 [D.i
 (itvLo
 (↑((D.l
 [[D.i (IntKind.i64.wrap (v ((0 : Nat) + (0 : Nat) * (1 : Nat))))],
 [D.i (IntKind.i64.wrap (v ((0 : Nat) + (1 : Nat) * (1 : Nat))))]]).sub
 (0 : Nat) ((0 : Nat) + (2 : Nat))).len :
 Int)
 (jnC
 (↑((D.l
 [[D.i (IntKind.i64.wrap (v ((0 : Nat) + (0 : Nat) * (1 : Nat))))],
 [D.i (IntKind.i64.wrap (v ((0 : Nat) + (1 : Nat) * (1 : Nat))))]]).sub
 (0 : Nat) ((0 : Nat) + (2 : Nat))).len :
 Int)
 (rowZ
 (↑((D.l
 [[D.i (IntKind.i64.wrap (v ((0 : Nat) + (0 : Nat) * (1 : Nat))))],
 [D.i (IntKind.i64.wrap (v ((0 : Nat) + (1 : Nat) * (1 : Nat))))]]).sub
 (0 : Nat) ((0 : Nat) + (2 : Nat))).len :
 Int)
 (fun (j : Nat) =>
 vD
 ((D.l
 [[D.i (IntKind.i64.wrap (v ((0 : Nat) + (0 : Nat) * (1 : Nat))))],
 [D.i (IntKind.i64.wrap (v ((0 : Nat) + (1 : Nat) * (1 : Nat))))]]).sub
 (0 : Nat) ((0 : Nat) + (2 : Nat)))
 (↑j : Int))
 ((D.l
 [[D.i (IntKind.i64.wrap (v ((0 : Nat) + (0 : Nat) * (1 : Nat))))],
 [D.i (IntKind.i64.wrap (v ((0 : Nat) + (1 : Nat) * (1 : Nat))))]]).sub
 (0 : Nat) ((0 : Nat) + (2 : Nat))).len).fst
 (↑((D.l [[D.i (0 : Int)], [D.i (mc.tmod (1000 : Int))]]).sub (0 : Nat)
 ((0 : Nat) + (2 : Nat))).len :
 Int)
 (rowZ
 (↑((D.l [[D.i (0 : Int)], [D.i (mc.tmod (1000 : Int))]]).sub (0 : Nat)
 ((0 : Nat) + (2 : Nat))).len :
 Int)
 (fun (j : Nat) =>
 vD
 ((D.l [[D.i (0 : Int)], [D.i (mc.tmod (1000 : Int))]]).sub (0 : Nat)
 ((0 : Nat) + (2 : Nat)))
 (↑j : Int))
 ((D.l [[D.i (0 : Int)], [D.i (mc.tmod (1000 : Int))]]).sub (0 : Nat)
 ((0 : Nat) + (2 : Nat))).len).fst)
 (jnF
 (↑((D.l
 [[D.i (IntKind.i64.wrap (v ((0 : Nat) + (0 : Nat) * (1 : Nat))))],
 [D.i (IntKind.i64.wrap (v ((0 : Nat) + (1 : Nat) * (1 : Nat))))]]).sub
 (0 : Nat) ((0 : Nat) + (2 : Nat))).len :
 Int)
 (rowZ
 (↑((D.l
 [[D.i (IntKind.i64.wrap (v ((0 : Nat) + (0 : Nat) * (1 : Nat))))],
 [D.i (IntKind.i64.wrap (v ((0 : Nat) + (1 : Nat) * (1 : Nat))))]]).sub
 (0 : Nat) ((0 : Nat) + (2 : Nat))).len :
 Int)
 (fun (j : Nat) =>
 vD
 ((D.l
 [[D.i (IntKind.i64.wrap (v ((0 : Nat) + (0 : Nat) * (1 : Nat))))],
 [D.i (IntKind.i64.wrap (v ((0 : Nat) + (1 : Nat) * (1 : Nat))))]]).sub
 (0 : Nat) ((0 : Nat) + (2 : Nat)))
 (↑j : Int))
 ((D.l
 [[D.i (IntKind.i64.wrap (v ((0 : Nat) + (0 : Nat) * (1 : Nat))))],
 [D.i (IntKind.i64.wrap (v ((0 : Nat) + (1 : Nat) * (1 : Nat))))]]).sub
 (0 : Nat) ((0 : Nat) + (2 : Nat))).len).fst
 (rowZ
 (↑((D.l
 [[D.i (IntKind.i64.wrap (v ((0 : Nat) + (0 : Nat) * (1 : Nat))))],
 [D.i (IntKind.i64.wrap (v ((0 : Nat) + (1 : Nat) * (1 : Nat))))]]).sub
 (0 : Nat) ((0 : Nat) + (2 : Nat))).len :
 Int)
 (fun (j : Nat) =>
 vD
 ((D.l
 [[D.i (IntKind.i64.wrap (v ((0 : Nat) + (0 : Nat) * (1 : Nat))))],
 [D.i (IntKind.i64.wrap (v ((0 : Nat) + (1 : Nat) * (1 : Nat))))]]).sub
 (0 : Nat) ((0 : Nat) + (2 : Nat)))
 (↑j : Int))
 ((D.l
 [[D.i (IntKind.i64.wrap (v ((0 : Nat) + (0 : Nat) * (1 : Nat))))],
 [D.i (IntKind.i64.wrap (v ((0 : Nat) + (1 : Nat) * (1 : Nat))))]]).sub
 (0 : Nat) ((0 : Nat) + (2 : Nat))).len).snd
 (↑((D.l [[D.i (0 : Int)], [D.i (mc.tmod (1000 : Int))]]).sub (0 : Nat)
 ((0 : Nat) + (2 : Nat))).len :
 Int)
 (rowZ
 (↑((D.l [[D.i (0 : Int)], [D.i (mc.tmod (1000 : Int))]]).sub (0 : Nat)
 ((0 : Nat) + (2 : Nat))).len :
 Int)
 (fun (j : Nat) =>
 vD
 ((D.l [[D.i (0 : Int)], [D.i (mc.tmod (1000 : Int))]]).sub (0 : Nat)
 ((0 : Nat) + (2 : Nat)))
 (↑j : Int))
 ((D.l [[D.i (0 : Int)], [D.i (mc.tmod (1000 : Int))]]).sub (0 : Nat)
 ((0 : Nat) + (2 : Nat))).len).fst
 (rowZ
 (↑((D.l [[D.i (0 : Int)], [D.i (mc.tmod (1000 : Int))]]).sub (0 : Nat)
 ((0 : Nat) + (2 : Nat))).len :
 Int)
 (fun (j : Nat) =>
 vD
 ((D.l [[D.i (0 : Int)], [D.i (mc.tmod (1000 : Int))]]).sub (0 : Nat)
 ((0 : Nat) + (2 : Nat)))
 (↑j : Int))
 ((D.l [[D.i (0 : Int)], [D.i (mc.tmod (1000 : Int))]]).sub (0 : Nat)
 ((0 : Nat) + (2 : Nat))).len).snd)
 (↑j : Int)),
 D.i
 (itvHi
 (↑((D.l
 [[D.i (IntKind.i64.wrap (v ((0 : Nat) + (0 : Nat) * (1 : Nat))))],
 [D.i (IntKind.i64.wrap (v ((0 : Nat) + (1 : Nat) * (1 : Nat))))]]).sub
 (0 : Nat) ((0 : Nat) + (2 : Nat))).len :
 Int)
 (jnC
 (↑((D.l
 [[D.i (IntKind.i64.wrap (v ((0 : Nat) + (0 : Nat) * (1 : Nat))))],
 [D.i (IntKind.i64.wrap (v ((0 : Nat) + (1 : Nat) * (1 : Nat))))]]).sub
 (0 : Nat) ((0 : Nat) + (2 : Nat))).len :
 Int)
 (rowZ
 (↑((D.l
 [[D.i (IntKind.i64.wrap (v ((0 : Nat) + (0 : Nat) * (1 : Nat))))],
 [D.i (IntKind.i64.wrap (v ((0 : Nat) + (1 : Nat) * (1 : Nat))))]]).sub
 (0 : Nat) ((0 : Nat) + (2 : Nat))).len :
 Int)
 (fun (j : Nat) =>
 vD
 ((D.l
 [[D.i (IntKind.i64.wrap (v ((0 : Nat) + (0 : Nat) * (1 : Nat))))],
 [D.i (IntKind.i64.wrap (v ((0 : Nat) + (1 : Nat) * (1 : Nat))))]]).sub
 (0 : Nat) ((0 : Nat) + (2 : Nat)))
 (↑j : Int))
 ((D.l
 [[D.i (IntKind.i64.wrap (v ((0 : Nat) + (0 : Nat) * (1 : Nat))))],
 [D.i (IntKind.i64.wrap (v ((0 : Nat) + (1 : Nat) * (1 : Nat))))]]).sub
 (0 : Nat) ((0 : Nat) + (2 : Nat))).len).fst
 (↑((D.l [[D.i (0 : Int)], [D.i (mc.tmod (1000 : Int))]]).sub (0 : Nat)
 ((0 : Nat) + (2 : Nat))).len :
 Int)
 (rowZ
 (↑((D.l [[D.i (0 : Int)], [D.i (mc.tmod (1000 : Int))]]).sub (0 : Nat)
 ((0 : Nat) + (2 : Nat))).len :
 Int)
 (fun (j : Nat) =>
 vD
 ((D.l [[D.i (0 : Int)], [D.i (mc.tmod (1000 : Int))]]).sub (0 : Nat)
 ((0 : Nat) + (2 : Nat)))
 (↑j : Int))
 ((D.l [[D.i (0 : Int)], [D.i (mc.tmod (1000 : Int))]]).sub (0 : Nat)
 ((0 : Nat) + (2 : Nat))).len).fst)
 (jnF
 (↑((D.l
 [[D.i (IntKind.i64.wrap (v ((0 : Nat) + (0 : Nat) * (1 : Nat))))],
 [D.i (IntKind.i64.wrap (v ((0 : Nat) + (1 : Nat) * (1 : Nat))))]]).sub
 (0 : Nat) ((0 : Nat) + (2 : Nat))).len :
 Int)
 (rowZ
 (↑((D.l
 [[D.i (IntKind.i64.wrap (v ((0 : Nat) + (0 : Nat) * (1 : Nat))))],
 [D.i (IntKind.i64.wrap (v ((0 : Nat) + (1 : Nat) * (1 : Nat))))]]).sub
 (0 : Nat) ((0 : Nat) + (2 : Nat))).len :
 Int)
 (fun (j : Nat) =>
 vD
 ((D.l
 [[D.i (IntKind.i64.wrap (v ((0 : Nat) + (0 : Nat) * (1 : Nat))))],
 [D.i (IntKind.i64.wrap (v ((0 : Nat) + (1 : Nat) * (1 : Nat))))]]).sub
 (0 : Nat) ((0 : Nat) + (2 : Nat)))
 (↑j : Int))
 ((D.l
 [[D.i (IntKind.i64.wrap (v ((0 : Nat) + (0 : Nat) * (1 : Nat))))],
 [D.i (IntKind.i64.wrap (v ((0 : Nat) + (1 : Nat) * (1 : Nat))))]]).sub
 (0 : Nat) ((0 : Nat) + (2 : Nat))).len).fst
 (rowZ
 (↑((D.l
 [[D.i (IntKind.i64.wrap (v ((0 : Nat) + (0 : Nat) * (1 : Nat))))],
 [D.i (IntKind.i64.wrap (v ((0 : Nat) + (1 : Nat) * (1 : Nat))))]]).sub
 (0 : Nat) ((0 : Nat) + (2 : Nat))).len :
 Int)
 (fun (j : Nat) =>
 vD
 ((D.l
 [[D.i (IntKind.i64.wrap (v ((0 : Nat) + (0 : Nat) * (1 : Nat))))],
 [D.i (IntKind.i64.wrap (v ((0 : Nat) + (1 : Nat) * (1 : Nat))))]]).sub
 (0 : Nat) ((0 : Nat) + (2 : Nat)))
 (↑j : Int))
 ((D.l
 [[D.i (IntKind.i64.wrap (v ((0 : Nat) + (0 : Nat) * (1 : Nat))))],
 [D.i (IntKind.i64.wrap (v ((0 : Nat) + (1 : Nat) * (1 : Nat))))]]).sub
 (0 : Nat) ((0 : Nat) + (2 : Nat))).len).snd
 (↑((D.l [[D.i (0 : Int)], [D.i (mc.tmod (1000 : Int))]]).sub (0 : Nat)
 ((0 : Nat) + (2 : Nat))).len :
 Int)
 (rowZ
 (↑((D.l [[D.i (0 : Int)], [D.i (mc.tmod (1000 : Int))]]).sub (0 : Nat)
 ((0 : Nat) + (2 : Nat))).len :
 Int)
 (fun (j : Nat) =>
 vD
 ((D.l [[D.i (0 : Int)], [D.i (mc.tmod (1000 : Int))]]).sub (0 : Nat)
 ((0 : Nat) + (2 : Nat)))
 (↑j : Int))
 ((D.l [[D.i (0 : Int)], [D.i (mc.tmod (1000 : Int))]]).sub (0 : Nat)
 ((0 : Nat) + (2 : Nat))).len).fst
 (rowZ
 (↑((D.l [[D.i (0 : Int)], [D.i (mc.tmod (1000 : Int))]]).sub (0 : Nat)
 ((0 : Nat) + (2 : Nat))).len :
 Int)
 (fun (j : Nat) =>
 vD
 ((D.l [[D.i (0 : Int)], [D.i (mc.tmod (1000 : Int))]]).sub (0 : Nat)
 ((0 : Nat) + (2 : Nat)))
 (↑j : Int))
 ((D.l [[D.i (0 : Int)], [D.i (mc.tmod (1000 : Int))]]).sub (0 : Nat)
 ((0 : Nat) + (2 : Nat))).len).snd)
 (↑j : Int))])
 (List.range
 (itD
 ((D.l
 [[D.i (IntKind.i64.wrap (v ((0 : Nat) + (0 : Nat) * (1 : Nat))))],
 [D.i (IntKind.i64.wrap (v ((0 : Nat) + (1 : Nat) * (1 : Nat))))]]).sub
 (0 : Nat) ((0 : Nat) + (2 : Nat))).len
 (↑((D.l
 [[D.i (IntKind.i64.wrap (v ((0 : Nat) + (0 : Nat) * (1 : Nat))))],
 [D.i (IntKind.i64.wrap (v ((0 : Nat) + (1 : Nat) * (1 : Nat))))]]).sub
 (0 : Nat) ((0 : Nat) + (2 : Nat))).len :
 Int)
 (rowZ
 (↑((D.l
 [[D.i (IntKind.i64.wrap (v ((0 : Nat) + (0 : Nat) * (1 : Nat))))],
 [D.i (IntKind.i64.wrap (v ((0 : Nat) + (1 : Nat) * (1 : Nat))))]]).sub
 (0 : Nat) ((0 : Nat) + (2 : Nat))).len :
 Int)
 (fun (j : Nat) =>
 vD
 ((D.l
 [[D.i (IntKind.i64.wrap (v ((0 : Nat) + (0 : Nat) * (1 : Nat))))],
 [D.i (IntKind.i64.wrap (v ((0 : Nat) + (1 : Nat) * (1 : Nat))))]]).sub
 (0 : Nat) ((0 : Nat) + (2 : Nat)))
 (↑j : Int))
 ((D.l
 [[D.i (IntKind.i64.wrap (v ((0 : Nat) + (0 : Nat) * (1 : Nat))))],
 [D.i (IntKind.i64.wrap (v ((0 : Nat) + (1 : Nat) * (1 : Nat))))]]).sub
 (0 : Nat) ((0 : Nat) + (2 : Nat))).len)).len) =
 List.map
 (fun (j : Nat) =>
 [D.i (itvLo (2 : Int) (jnV v mc).fst (jnV v mc).snd (↑j : Int)),
 D.i (itvHi (2 : Int) (jnV v mc).fst (jnV v mc).snd (↑j : Int))])
 (List.range (2 : Nat)) ∧
 (↑((D.l
 [[D.i (IntKind.i64.wrap (v ((0 : Nat) + (0 : Nat) * (1 : Nat))))],
 [D.i (IntKind.i64.wrap (v ((0 : Nat) + (1 : Nat) * (1 : Nat))))]]).sub
 (0 : Nat) ((0 : Nat) + (2 : Nat))).len :
 Int) =
 (2 : Int) ∧
 jnC
 (↑((D.l
 [[D.i (IntKind.i64.wrap (v ((0 : Nat) + (0 : Nat) * (1 : Nat))))],
 [D.i (IntKind.i64.wrap (v ((0 : Nat) + (1 : Nat) * (1 : Nat))))]]).sub
 (0 : Nat) ((0 : Nat) + (2 : Nat))).len :
 Int)
 (rowZ
 (↑((D.l
 [[D.i (IntKind.i64.wrap (v ((0 : Nat) + (0 : Nat) * (1 : Nat))))],
 [D.i (IntKind.i64.wrap (v ((0 : Nat) + (1 : Nat) * (1 : Nat))))]]).sub
 (0 : Nat) ((0 : Nat) + (2 : Nat))).len :
 Int)
 (fun (j : Nat) =>
 vD
 ((D.l
 [[D.i (IntKind.i64.wrap (v ((0 : Nat) + (0 : Nat) * (1 : Nat))))],
 [D.i (IntKind.i64.wrap (v ((0 : Nat) + (1 : Nat) * (1 : Nat))))]]).sub
 (0 : Nat) ((0 : Nat) + (2 : Nat)))
 (↑j : Int))
 ((D.l
 [[D.i (IntKind.i64.wrap (v ((0 : Nat) + (0 : Nat) * (1 : Nat))))],
 [D.i (IntKind.i64.wrap (v ((0 : Nat) + (1 : Nat) * (1 : Nat))))]]).sub
 (0 : Nat) ((0 : Nat) + (2 : Nat))).len).fst
 (↑((D.l [[D.i (0 : Int)], [D.i (mc.tmod (1000 : Int))]]).sub (0 : Nat)
 ((0 : Nat) + (2 : Nat))).len :
 Int)
 (rowZ
 (↑((D.l [[D.i (0 : Int)], [D.i (mc.tmod (1000 : Int))]]).sub (0 : Nat)
 ((0 : Nat) + (2 : Nat))).len :
 Int)
 (fun (j : Nat) =>
 vD
 ((D.l [[D.i (0 : Int)], [D.i (mc.tmod (1000 : Int))]]).sub (0 : Nat)
 ((0 : Nat) + (2 : Nat)))
 (↑j : Int))
 ((D.l [[D.i (0 : Int)], [D.i (mc.tmod (1000 : Int))]]).sub (0 : Nat)
 ((0 : Nat) + (2 : Nat))).len).fst =
 (jnV v mc).fst ∧
 (∀ (o : Nat),
 o < (49 : Nat) →
 jnF
 (↑((D.l
 [[D.i (IntKind.i64.wrap (v ((0 : Nat) + (0 : Nat) * (1 : Nat))))],
 [D.i (IntKind.i64.wrap (v ((0 : Nat) + (1 : Nat) * (1 : Nat))))]]).sub
 (0 : Nat) ((0 : Nat) + (2 : Nat))).len :
 Int)
 (rowZ
 (↑((D.l
 [[D.i (IntKind.i64.wrap (v ((0 : Nat) + (0 : Nat) * (1 : Nat))))],
 [D.i (IntKind.i64.wrap (v ((0 : Nat) + (1 : Nat) * (1 : Nat))))]]).sub
 (0 : Nat) ((0 : Nat) + (2 : Nat))).len :
 Int)
 (fun (j : Nat) =>
 vD
 ((D.l
 [[D.i (IntKind.i64.wrap (v ((0 : Nat) + (0 : Nat) * (1 : Nat))))],
 [D.i (IntKind.i64.wrap (v ((0 : Nat) + (1 : Nat) * (1 : Nat))))]]).sub
 (0 : Nat) ((0 : Nat) + (2 : Nat)))
 (↑j : Int))
 ((D.l
 [[D.i (IntKind.i64.wrap (v ((0 : Nat) + (0 : Nat) * (1 : Nat))))],
 [D.i (IntKind.i64.wrap (v ((0 : Nat) + (1 : Nat) * (1 : Nat))))]]).sub
 (0 : Nat) ((0 : Nat) + (2 : Nat))).len).fst
 (rowZ
 (↑((D.l
 [[D.i (IntKind.i64.wrap (v ((0 : Nat) + (0 : Nat) * (1 : Nat))))],
 [D.i (IntKind.i64.wrap (v ((0 : Nat) + (1 : Nat) * (1 : Nat))))]]).sub
 (0 : Nat) ((0 : Nat) + (2 : Nat))).len :
 Int)
 (fun (j : Nat) =>
 vD
 ((D.l
 [[D.i (IntKind.i64.wrap (v ((0 : Nat) + (0 : Nat) * (1 : Nat))))],
 [D.i (IntKind.i64.wrap (v ((0 : Nat) + (1 : Nat) * (1 : Nat))))]]).sub
 (0 : Nat) ((0 : Nat) + (2 : Nat)))
 (↑j : Int))
 ((D.l
 [[D.i (IntKind.i64.wrap (v ((0 : Nat) + (0 : Nat) * (1 : Nat))))],
 [D.i (IntKind.i64.wrap (v ((0 : Nat) + (1 : Nat) * (1 : Nat))))]]).sub
 (0 : Nat) ((0 : Nat) + (2 : Nat))).len).snd
 (↑((D.l [[D.i (0 : Int)], [D.i (mc.tmod (1000 : Int))]]).sub (0 : Nat)
 ((0 : Nat) + (2 : Nat))).len :
 Int)
 (rowZ
 (↑((D.l [[D.i (0 : Int)], [D.i (mc.tmod (1000 : Int))]]).sub (0 : Nat)
 ((0 : Nat) + (2 : Nat))).len :
 Int)
 (fun (j : Nat) =>
 vD
 ((D.l [[D.i (0 : Int)], [D.i (mc.tmod (1000 : Int))]]).sub (0 : Nat)
 ((0 : Nat) + (2 : Nat)))
 (↑j : Int))
 ((D.l [[D.i (0 : Int)], [D.i (mc.tmod (1000 : Int))]]).sub (0 : Nat)
 ((0 : Nat) + (2 : Nat))).len).fst
 (rowZ
 (↑((D.l [[D.i (0 : Int)], [D.i (mc.tmod (1000 : Int))]]).sub (0 : Nat)
 ((0 : Nat) + (2 : Nat))).len :
 Int)
 (fun (j : Nat) =>
 vD
 ((D.l [[D.i (0 : Int)], [D.i (mc.tmod (1000 : Int))]]).sub (0 : Nat)
 ((0 : Nat) + (2 : Nat)))
 (↑j : Int))
 ((D.l [[D.i (0 : Int)], [D.i (mc.tmod (1000 : Int))]]).sub (0 : Nat)
 ((0 : Nat) + (2 : Nat))).len).snd
 o =
 (jnV v mc).snd o) ∧
 ([] : List (List D)) = [] ∧
 ([] : List (List D)) = [] ∧
 (∀ (o : Nat), o < (2 : Nat) → v o = v o) ∧
 mv.rows = mv.rows ∧
 mc = mc ∧
 mr = mr ∧
 [[D.i (2 : Int), D.l [edK i_1], D.l []]] = [[D.i (2 : Int), D.l [edK i_1], D.l []]] ∧
 [[D.i (2 : Int)]] = [[D.i (2 : Int)]]) ∧
 ∀ (i_3 : Nat),
 i_3 < (2 : Nat) ∧ (↑i : Int) = (↑i_3 : Int) →
 NumOK (2 : Int) (jnV v mc).fst (itD (2 : Nat) (2 : Int) (jnV v mc)) (jnV v mc).fst (jnV v mc).snd ∧
 (jnV v mc).fst = false ∧
 (0 : Int) < (2 : Int) ∧
 topN (varP (D.l [[D.i (2 : Int)]]) (0 : Int)) = (2 : Int) ∧
 edgeB (D.l []) (grD [edK i_1]) (0 : Int) (0 : Int) = true ∧
 (D.l []).len = (D.l []).len ∧
 (D.l []).len = (D.l []).len ∧
 (D.l []).len ≤ (1000 : Nat) ∧
 ((edC (grD [edK i_1]) (0 : Int) (0 : Int) (2 : Nat)).toI = (0 : Int) ∨
 (edC (grD [edK i_1]) (0 : Int) (0 : Int) (2 : Nat)).toI = (1 : Int) ∨
 (edC (grD [edK i_1]) (0 : Int) (0 : Int) (2 : Nat)).toI = (5 : Int) ∨
 (edC (grD [edK i_1]) (0 : Int) (0 : Int) (2 : Nat)).toI = (6 : Int)) ∧
 (stpK (grD [edK i_1]) (0 : Int) (0 : Int) (2 : Int) ((jnV v mc).fst, (jnV v mc).snd)).len ≤ (1 : Nat) ∧
 (((nonZ (stpZ (grD [edK i_1]) (0 : Int) (0 : Int) (2 : Int) ((jnV v mc).fst, (jnV v mc).snd))).fst ||
 (↑(stpK (grD [edK i_1]) (0 : Int) (0 : Int) (2 : Int) ((jnV v mc).fst, (jnV v mc).snd)).len :
 Int) !=
 (0 : Int) ||
 (-1 : Int) != (-1 : Int) ||
 (↑(itD (Int.toNat (2 : Int)) (2 : Int)
 (nonZ
 (stpZ (grD [edK i_1]) (0 : Int) (0 : Int) (2 : Int)
 ((jnV v mc).fst, (jnV v mc).snd)))).len :
 Int) !=
 (2 : Int)) =
 false ∧
 True →
 (0 : Nat) <
 (itD (Int.toNat (2 : Int)) (2 : Int)
 (nonZ (stpZ (grD [edK i_1]) (0 : Int) (0 : Int) (2 : Int) ((jnV v mc).fst, (jnV v mc).snd)))).len) ∧
 (((nonZ (stpZ (grD [edK i_1]) (0 : Int) (0 : Int) (2 : Int) ((jnV v mc).fst, (jnV v mc).snd))).fst ||
 (↑(stpK (grD [edK i_1]) (0 : Int) (0 : Int) (2 : Int) ((jnV v mc).fst, (jnV v mc).snd)).len :
 Int) !=
 (0 : Int) ||
 (-1 : Int) != (-1 : Int) ||
 (↑(itD (Int.toNat (2 : Int)) (2 : Int)
 (nonZ
 (stpZ (grD [edK i_1]) (0 : Int) (0 : Int) (2 : Int)
 ((jnV v mc).fst, (jnV v mc).snd)))).len :
 Int) !=
 (2 : Int)) =
 false ∧
 True →
 (0 : Nat) < (itD (2 : Nat) (2 : Int) (jnV v mc)).len) ∧
 (((nonZ (stpZ (grD [edK i_1]) (0 : Int) (0 : Int) (2 : Int) ((jnV v mc).fst, (jnV v mc).snd))).fst ||
 (↑(stpK (grD [edK i_1]) (0 : Int) (0 : Int) (2 : Int)
 ((jnV v mc).fst, (jnV v mc).snd)).len :
 Int) !=
 (0 : Int) ||
 (-1 : Int) != (-1 : Int) ||
 (↑(itD (Int.toNat (2 : Int)) (2 : Int)
 (nonZ
 (stpZ (grD [edK i_1]) (0 : Int) (0 : Int) (2 : Int)
 ((jnV v mc).fst, (jnV v mc).snd)))).len :
 Int) !=
 (2 : Int) ||
 !(itvLo (2 : Int)
 (nonZ
 (stpZ (grD [edK i_1]) (0 : Int) (0 : Int) (2 : Int)
 ((jnV v mc).fst, (jnV v mc).snd))).fst
 (nonZ
 (stpZ (grD [edK i_1]) (0 : Int) (0 : Int) (2 : Int)
 ((jnV v mc).fst, (jnV v mc).snd))).snd
 (↑((0 : Nat)) : Int) ==
 itvLo (2 : Int) (jnV v mc).fst (jnV v mc).snd (↑((0 : Nat)) : Int) &&
 (itvHi (2 : Int)
 (nonZ
 (stpZ (grD [edK i_1]) (0 : Int) (0 : Int) (2 : Int)
 ((jnV v mc).fst, (jnV v mc).snd))).fst
 (nonZ
 (stpZ (grD [edK i_1]) (0 : Int) (0 : Int) (2 : Int)
 ((jnV v mc).fst, (jnV v mc).snd))).snd
 (↑((0 : Nat)) : Int) ==
 itvHi (2 : Int) (jnV v mc).fst (jnV v mc).snd (↑((0 : Nat)) : Int) &&
 true))) =
 true →
 false = true) ∧
 (((nonZ (stpZ (grD [edK i_1]) (0 : Int) (0 : Int) (2 : Int) ((jnV v mc).fst, (jnV v mc).snd))).fst ||
 (↑(stpK (grD [edK i_1]) (0 : Int) (0 : Int) (2 : Int)
 ((jnV v mc).fst, (jnV v mc).snd)).len :
 Int) !=
 (0 : Int) ||
 (-1 : Int) != (-1 : Int) ||
 (↑(itD (Int.toNat (2 : Int)) (2 : Int)
 (nonZ
 (stpZ (grD [edK i_1]) (0 : Int) (0 : Int) (2 : Int)
 ((jnV v mc).fst, (jnV v mc).snd)))).len :
 Int) !=
 (2 : Int) ||
 !(itvLo (2 : Int)
 (nonZ
 (stpZ (grD [edK i_1]) (0 : Int) (0 : Int) (2 : Int)
 ((jnV v mc).fst, (jnV v mc).snd))).fst
 (nonZ
 (stpZ (grD [edK i_1]) (0 : Int) (0 : Int) (2 : Int)
 ((jnV v mc).fst, (jnV v mc).snd))).snd
 (↑((0 : Nat)) : Int) ==
 itvLo (2 : Int) (jnV v mc).fst (jnV v mc).snd (↑((0 : Nat)) : Int) &&
 (itvHi (2 : Int)
 (nonZ
 (stpZ (grD [edK i_1]) (0 : Int) (0 : Int) (2 : Int)
 ((jnV v mc).fst, (jnV v mc).snd))).fst
 (nonZ
 (stpZ (grD [edK i_1]) (0 : Int) (0 : Int) (2 : Int)
 ((jnV v mc).fst, (jnV v mc).snd))).snd
 (↑((0 : Nat)) : Int) ==
 itvHi (2 : Int) (jnV v mc).fst (jnV v mc).snd (↑((0 : Nat)) : Int) &&
 true))) =
 false →
 (((↑i : Int) == (0 : Int)) = true ∧ True →
 (if
 (stpZ (grD [edK i_1]) (0 : Int) (0 : Int) (2 : Int)
 ((jnV v mc).fst, (jnV v mc).snd)).fst =
 true then
 repD (D.l []).len [D.i (1 : Int), D.i (0 : Int)]
 else D.l []).len =
 (0 : Nat)) ∧
 (((↑i : Int) == (0 : Int)) = true ∧ True →
 (if
 (stpZ (grD [edK i_1]) (0 : Int) (0 : Int) (2 : Int)
 ((jnV v mc).fst, (jnV v mc).snd)).fst =
 true then
 repD (D.l []).len [D.i (0 : Int)]
 else D.l []).len =
 (0 : Nat)) ∧
 (((↑i : Int) == (0 : Int)) = true ∧ True → (D.l []).len = (0 : Nat)) ∧
 (((↑i : Int) == (0 : Int)) = true ∧ True → (D.l []).len = (0 : Nat)) ∧
 (((↑i : Int) == (1 : Int)) = true ∧
 ((↑i : Int) == (0 : Int) &&
 !((nonZ
 (stpZ (grD [edK i_1]) (0 : Int) (0 : Int) (2 : Int)
 ((jnV v mc).fst, (jnV v mc).snd))).fst ||
 withinP (2 : Int)
 (nonZ
 (stpZ (grD [edK i_1]) (0 : Int) (0 : Int) (2 : Int)
 ((jnV v mc).fst, (jnV v mc).snd))).fst
 (nonZ
 (stpZ (grD [edK i_1]) (0 : Int) (0 : Int) (2 : Int)
 ((jnV v mc).fst, (jnV v mc).snd))).snd
 (2 : Int) (jnV v mc).fst (jnV v mc).snd)) =
 false ∧
 True →
 (1 : Nat) <
 (itD (Int.toNat (2 : Int)) (2 : Int)
 (nonZ
 (stpZ (grD [edK i_1]) (0 : Int) (0 : Int) (2 : Int)
 ((jnV v mc).fst, (jnV v mc).snd)))).len) ∧
 (((↑i : Int) == (0 : Int) &&
 !((nonZ
 (stpZ (grD [edK i_1]) (0 : Int) (0 : Int) (2 : Int)
 ((jnV v mc).fst, (jnV v mc).snd))).fst ||
 withinP (2 : Int)
 (nonZ
 (stpZ (grD [edK i_1]) (0 : Int) (0 : Int) (2 : Int)
 ((jnV v mc).fst, (jnV v mc).snd))).fst
 (nonZ
 (stpZ (grD [edK i_1]) (0 : Int) (0 : Int) (2 : Int)
 ((jnV v mc).fst, (jnV v mc).snd))).snd
 (2 : Int) (jnV v mc).fst (jnV v mc).snd) ||
 (↑i : Int) == (1 : Int) &&
 !(itvLo (2 : Int)
 (nonZ
 (stpZ (grD [edK i_1]) (0 : Int) (0 : Int) (2 : Int)
 ((jnV v mc).fst, (jnV v mc).snd))).fst
 (nonZ
 (stpZ (grD [edK i_1]) (0 : Int) (0 : Int) (2 : Int)
 ((jnV v mc).fst, (jnV v mc).snd))).snd
 (↑((1 : Nat)) : Int) ==
 (-2147483648 : Int) &&
 (itvHi (2 : Int)
 (nonZ
 (stpZ (grD [edK i_1]) (0 : Int) (0 : Int) (2 : Int)
 ((jnV v mc).fst, (jnV v mc).snd))).fst
 (nonZ
 (stpZ (grD [edK i_1]) (0 : Int) (0 : Int) (2 : Int)
 ((jnV v mc).fst, (jnV v mc).snd))).snd
 (↑((1 : Nat)) : Int) ==
 (2147483647 : Int) &&
 true))) =
 false ∧
 True →
 (D.l []).len = (0 : Nat)) ∧
 (((↑i : Int) == (0 : Int) &&
 !((nonZ
 (stpZ (grD [edK i_1]) (0 : Int) (0 : Int) (2 : Int)
 ((jnV v mc).fst, (jnV v mc).snd))).fst ||
 withinP (2 : Int)
 (nonZ
 (stpZ (grD [edK i_1]) (0 : Int) (0 : Int) (2 : Int)
 ((jnV v mc).fst, (jnV v mc).snd))).fst
 (nonZ
 (stpZ (grD [edK i_1]) (0 : Int) (0 : Int) (2 : Int)
 ((jnV v mc).fst, (jnV v mc).snd))).snd
 (2 : Int) (jnV v mc).fst (jnV v mc).snd) ||
 (↑i : Int) == (1 : Int) &&
 !(itvLo (2 : Int)
 (nonZ
 (stpZ (grD [edK i_1]) (0 : Int) (0 : Int) (2 : Int)
 ((jnV v mc).fst, (jnV v mc).snd))).fst
 (nonZ
 (stpZ (grD [edK i_1]) (0 : Int) (0 : Int) (2 : Int)
 ((jnV v mc).fst, (jnV v mc).snd))).snd
 (↑((1 : Nat)) : Int) ==
 (-2147483648 : Int) &&
 (itvHi (2 : Int)
 (nonZ
 (stpZ (grD [edK i_1]) (0 : Int) (0 : Int) (2 : Int)
 ((jnV v mc).fst, (jnV v mc).snd))).fst
 (nonZ
 (stpZ (grD [edK i_1]) (0 : Int) (0 : Int) (2 : Int)
 ((jnV v mc).fst, (jnV v mc).snd))).snd
 (↑((1 : Nat)) : Int) ==
 (2147483647 : Int) &&
 true))) =
 false ∧
 True →
 (D.l []).len = (0 : Nat)) ∧
 (((↑i : Int) == (0 : Int) &&
 !((nonZ
 (stpZ (grD [edK i_1]) (0 : Int) (0 : Int) (2 : Int)
 ((jnV v mc).fst, (jnV v mc).snd))).fst ||
 withinP (2 : Int)
 (nonZ
 (stpZ (grD [edK i_1]) (0 : Int) (0 : Int) (2 : Int)
 ((jnV v mc).fst, (jnV v mc).snd))).fst
 (nonZ
 (stpZ (grD [edK i_1]) (0 : Int) (0 : Int) (2 : Int)
 ((jnV v mc).fst, (jnV v mc).snd))).snd
 (2 : Int) (jnV v mc).fst (jnV v mc).snd) ||
 (↑i : Int) == (1 : Int) &&
 !(itvLo (2 : Int)
 (nonZ
 (stpZ (grD [edK i_1]) (0 : Int) (0 : Int) (2 : Int)
 ((jnV v mc).fst, (jnV v mc).snd))).fst
 (nonZ
 (stpZ (grD [edK i_1]) (0 : Int) (0 : Int) (2 : Int)
 ((jnV v mc).fst, (jnV v mc).snd))).snd
 (↑((1 : Nat)) : Int) ==
 (-2147483648 : Int) &&
 (itvHi (2 : Int)
 (nonZ
 (stpZ (grD [edK i_1]) (0 : Int) (0 : Int) (2 : Int)
 ((jnV v mc).fst, (jnV v mc).snd))).fst
 (nonZ
 (stpZ (grD [edK i_1]) (0 : Int) (0 : Int) (2 : Int)
 ((jnV v mc).fst, (jnV v mc).snd))).snd
 (↑((1 : Nat)) : Int) ==
 (2147483647 : Int) &&
 true))) =
 false ∧
 True →
 (if
 (stpZ (grD [edK i_1]) (0 : Int) (0 : Int) (2 : Int)
 ((jnV v mc).fst, (jnV v mc).snd)).fst =
 true then
 repD (D.l []).len [D.i (1 : Int), D.i (0 : Int)]
 else D.l []).len =
 (0 : Nat)) ∧
 (((↑i : Int) == (0 : Int) &&
 !((nonZ
 (stpZ (grD [edK i_1]) (0 : Int) (0 : Int) (2 : Int)
 ((jnV v mc).fst, (jnV v mc).snd))).fst ||
 withinP (2 : Int)
 (nonZ
 (stpZ (grD [edK i_1]) (0 : Int) (0 : Int) (2 : Int)
 ((jnV v mc).fst, (jnV v mc).snd))).fst
 (nonZ
 (stpZ (grD [edK i_1]) (0 : Int) (0 : Int) (2 : Int)
 ((jnV v mc).fst, (jnV v mc).snd))).snd
 (2 : Int) (jnV v mc).fst (jnV v mc).snd) ||
 (↑i : Int) == (1 : Int) &&
 !(itvLo (2 : Int)
 (nonZ
 (stpZ (grD [edK i_1]) (0 : Int) (0 : Int) (2 : Int)
 ((jnV v mc).fst, (jnV v mc).snd))).fst
 (nonZ
 (stpZ (grD [edK i_1]) (0 : Int) (0 : Int) (2 : Int)
 ((jnV v mc).fst, (jnV v mc).snd))).snd
 (↑((1 : Nat)) : Int) ==
 (-2147483648 : Int) &&
 (itvHi (2 : Int)
 (nonZ
 (stpZ (grD [edK i_1]) (0 : Int) (0 : Int) (2 : Int)
 ((jnV v mc).fst, (jnV v mc).snd))).fst
 (nonZ
 (stpZ (grD [edK i_1]) (0 : Int) (0 : Int) (2 : Int)
 ((jnV v mc).fst, (jnV v mc).snd))).snd
 (↑((1 : Nat)) : Int) ==
 (2147483647 : Int) &&
 true))) =
 false ∧
 True →
 (if
 (stpZ (grD [edK i_1]) (0 : Int) (0 : Int) (2 : Int)
 ((jnV v mc).fst, (jnV v mc).snd)).fst =
 true then
 repD (D.l []).len [D.i (0 : Int)]
 else D.l []).len =
 (0 : Nat)) ∧
 (((↑i : Int) == (0 : Int) &&
 !((nonZ
 (stpZ (grD [edK i_1]) (0 : Int) (0 : Int) (2 : Int)
 ((jnV v mc).fst, (jnV v mc).snd))).fst ||
 withinP (2 : Int)
 (nonZ
 (stpZ (grD [edK i_1]) (0 : Int) (0 : Int) (2 : Int)
 ((jnV v mc).fst, (jnV v mc).snd))).fst
 (nonZ
 (stpZ (grD [edK i_1]) (0 : Int) (0 : Int) (2 : Int)
 ((jnV v mc).fst, (jnV v mc).snd))).snd
 (2 : Int) (jnV v mc).fst (jnV v mc).snd) ||
 (↑i : Int) == (1 : Int) &&
 !(itvLo (2 : Int)
 (nonZ
 (stpZ (grD [edK i_1]) (0 : Int) (0 : Int) (2 : Int)
 ((jnV v mc).fst, (jnV v mc).snd))).fst
 (nonZ
 (stpZ (grD [edK i_1]) (0 : Int) (0 : Int) (2 : Int)
 ((jnV v mc).fst, (jnV v mc).snd))).snd
 (↑((1 : Nat)) : Int) ==
 (-2147483648 : Int) &&
 (itvHi (2 : Int)
 (nonZ
 (stpZ (grD [edK i_1]) (0 : Int) (0 : Int) (2 : Int)
 ((jnV v mc).fst, (jnV v mc).snd))).fst
 (nonZ
 (stpZ (grD [edK i_1]) (0 : Int) (0 : Int) (2 : Int)
 ((jnV v mc).fst, (jnV v mc).snd))).snd
 (↑((1 : Nat)) : Int) ==
 (2147483647 : Int) &&
 true)) ||
 !((jnV v mc).fst ||
 withinP (2 : Int) (jnV v mc).fst (jnV v mc).snd (2 : Int)
 (nonZ
 (stpZ (grD [edK i_1]) (0 : Int) (0 : Int) (2 : Int)
 ((jnV v mc).fst, (jnV v mc).snd))).fst
 (nonZ
 (stpZ (grD [edK i_1]) (0 : Int) (0 : Int) (2 : Int)
 ((jnV v mc).fst, (jnV v mc).snd))).snd)) =
 true →
 false = true) ∧
 (((↑i : Int) == (0 : Int) &&
 !((nonZ
 (stpZ (grD [edK i_1]) (0 : Int) (0 : Int) (2 : Int)
 ((jnV v mc).fst, (jnV v mc).snd))).fst ||
 withinP (2 : Int)
 (nonZ
 (stpZ (grD [edK i_1]) (0 : Int) (0 : Int) (2 : Int)
 ((jnV v mc).fst, (jnV v mc).snd))).fst
 (nonZ
 (stpZ (grD [edK i_1]) (0 : Int) (0 : Int) (2 : Int)
 ((jnV v mc).fst, (jnV v mc).snd))).snd
 (2 : Int) (jnV v mc).fst (jnV v mc).snd) ||
 (↑i : Int) == (1 : Int) &&
 !(itvLo (2 : Int)
 (nonZ
 (stpZ (grD [edK i_1]) (0 : Int) (0 : Int) (2 : Int)
 ((jnV v mc).fst, (jnV v mc).snd))).fst
 (nonZ
 (stpZ (grD [edK i_1]) (0 : Int) (0 : Int) (2 : Int)
 ((jnV v mc).fst, (jnV v mc).snd))).snd
 (↑((1 : Nat)) : Int) ==
 (-2147483648 : Int) &&
 (itvHi (2 : Int)
 (nonZ
 (stpZ (grD [edK i_1]) (0 : Int) (0 : Int) (2 : Int)
 ((jnV v mc).fst, (jnV v mc).snd))).fst
 (nonZ
 (stpZ (grD [edK i_1]) (0 : Int) (0 : Int) (2 : Int)
 ((jnV v mc).fst, (jnV v mc).snd))).snd
 (↑((1 : Nat)) : Int) ==
 (2147483647 : Int) &&
 true)) ||
 !((jnV v mc).fst ||
 withinP (2 : Int) (jnV v mc).fst (jnV v mc).snd (2 : Int)
 (nonZ
 (stpZ (grD [edK i_1]) (0 : Int) (0 : Int) (2 : Int)
 ((jnV v mc).fst, (jnV v mc).snd))).fst
 (nonZ
 (stpZ (grD [edK i_1]) (0 : Int) (0 : Int) (2 : Int)
 ((jnV v mc).fst, (jnV v mc).snd))).snd)) =
 false →
 ∃ (j : Nat),
 j.le (2 : Nat) ∧
 (3 : Nat) - j < (3 : Nat) - i ∧
 IntKind.i64.wrap ((↑i : Int) + (1 : Int)) = (↑j : Int) ∧
 [edK (0 : Nat), edK (1 : Nat)] = [edK (0 : Nat), edK (1 : Nat)] ∧
 false = false ∧
 (∀ (o : Nat), o < (2 : Nat) → v o = v o) ∧
 mv.rows = mv.rows ∧ mc = mc ∧ mr = mr))) ∧
 (decide ((↑i : Int) < (2 : Int)) = false → true = true)) (by kernel_rfl) ?_
    intro hv
    have w0 : IntKind.i64.wrap (v (0 + 0 * 1)) = v 0 := wr _ (by have := hv 0 (by omega); show -9223372036854775808 ≤ v 0 ∧ v 0 ≤ _; omega)
    have w1 : IntKind.i64.wrap (v (0 + 1 * 1)) = v 1 := wr _ (by have := hv 1 (by omega); show -9223372036854775808 ≤ v 1 ∧ v 1 ≤ _; omega)
    refine ⟨⟨0, ?_⟩, fun i hi => ⟨fun hl => ?_, fun _ => rfl⟩⟩
    · (repeat' apply And.intro) <;> first | rfl | trivial | exact Nat.zero_le _ | exact Nat.le_refl _ | (intro _ _; rfl)
    have hl : (i : Int) < 2 := of_decide_eq_true hl
    have hl : i < 2 := by omega
    have hi2 : i = 0 ∨ i = 1 := by omega
    refine ⟨⟨by rcases hi2 with rfl | rfl <;> decide, by rcases hi2 with rfl | rfl <;> decide, i, ?_⟩, ?_⟩
    · (repeat' apply And.intro) <;> first | rfl | exact hl | exact Nat.le_refl _ | (intro _ _; rfl) | (rcases hi2 with rfl | rfl <;> rfl)
    rintro j ⟨hj, ej⟩
    have ej : i = j := by omega
    subst ej
    refine ⟨⟨Nat.zero_le _, i, ?_⟩, ?_⟩
    · (repeat' apply And.intro) <;> first | rfl | exact hl | (intro _ _; rfl)
    rintro j ⟨hj, ej⟩
    have ej : i = j := by omega
    subst ej
    have c1 : ∀ a b : D, ((D.l [[a], [b]]).sub 0 (0 + 2)).len = 2 := fun _ _ => rfl
    have c3 : ((2 : Nat) : Int) = 2 := rfl
    have ra : rowZ 2 (fun j => vD ((D.l [[D.i (v 0)], [D.i (v 1)]]).sub 0 (0 + 2)) (j : Int)) 2 = rowZ 2 (two (v 0) (v 1)) 2 := rowZ_two _
    have rb : rowZ 2 (fun j => vD ((D.l [[D.i 0], [D.i (mc.tmod 1000)]]).sub 0 (0 + 2)) (j : Int)) 2 = rowZ 2 (two 0 (mc.tmod 1000)) 2 := rowZ_two _
    simp only [w0, w1, c1, c3, ra, rb]
    refine ⟨⟨Nat.le_refl _, by decide, Nat.le_refl _, by decide, good_row (by omega) _ _, good_row (by omega) _ _, (by rw [itD_len]; decide), i, ⟨hl, rfl⟩, ?_⟩, ?_⟩
    · (repeat' apply And.intro) <;> first | trivial | rfl | (intro _ _; rfl)
    rintro j ⟨hj, ej⟩
    have ej : i = j := by omega
    subst ej
    obtain ⟨g, f, hK, hZ, l0, h0, hw, z0, z1⟩ := skip_facts hv mc hl
    have hN : nonZ (stpZ (grD [edK i]) 0 0 2 (jnV v mc)) = stpZ (grD [edK i]) 0 0 2 (jnV v mc) := if_neg (by rw [hZ]; decide)
    have hp : ((jnV v mc).fst, (jnV v mc).snd) = jnV v mc := rfl
    have hE : edgeB (D.l []) (grD [edK i]) 0 0 = true := by rcases hi2 with rfl | rfl <;> rfl
    have hkd : (edC (grD [edK i]) 0 0 2).toI = 0 ∨ (edC (grD [edK i]) 0 0 2).toI = 1 ∨ (edC (grD [edK i]) 0 0 2).toI = 5 ∨ (edC (grD [edK i]) 0 0 2).toI = 6 := by rcases hi2 with rfl | rfl; exact .inl rfl; exact .inr (.inr (.inr rfl))
    have hn : NumOK 2 (jnV v mc).1 (itD 2 2 (jnV v mc)) (jnV v mc).1 (jnV v mc).2 := numOK_of g
    simp only [hp, hN, hK, itD_len]
    revert hZ l0 h0 hw z0 z1 hN
    generalize stpZ (grD [edK i]) 0 0 2 (jnV v mc) = S
    revert g f hn
    generalize jnV v mc = J
    intro g f hn hZ l0 h0 hw z0 z1 _
    refine ⟨hn, ?_⟩
    simp only [hZ, f, hE, hkd]
    simp only [f, hZ] at l0 h0 hw z0 z1
    have n0 : ((0 : Nat) : Int) = 0 := rfl
    have n1 : ((1 : Nat) : Int) = 1 := rfl
    have tw : topN (varP (D.l [[D.i 2]]) 0) = 2 := by kernel_rfl
    refine ⟨trivial, by decide, tw, trivial, trivial, trivial, Nat.zero_le _, trivial, Nat.zero_le _, fun _ => by decide, fun _ => by decide, fun h => ?_, fun _ => ⟨fun _ => rfl, fun _ => rfl, fun _ => rfl, fun _ => rfl, fun _ => by decide, fun _ => rfl, fun _ => rfl, fun _ => rfl, fun _ => rfl, fun h => ?_, fun _ => ⟨i + 1, (by omega : i + 1 ≤ 2), by omega, wr _ (by omega), trivial, trivial, fun _ _ => trivial, trivial, trivial, trivial⟩⟩⟩
    · exfalso
      rw [n0, l0, h0] at h
      simp [D.len, D.rows] at h
    · exfalso
      rw [n1, hw] at h
      rcases hi2 with rfl | rfl
      · rw [z0 rfl] at h
        simp at h
      · obtain ⟨a, b⟩ := z1 rfl
        rw [a, b] at h
        simp at h
  · trivial
end Go.Proofs.YtlgmofjjjhbgkaaGreat.Sx.Z
