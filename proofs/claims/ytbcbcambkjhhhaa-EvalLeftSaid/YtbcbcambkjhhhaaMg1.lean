/-
  EvalLeft's contract.
-/
import Derived.Test.YtbcbcambkjhhhaaProg
import Derived.Test.YtbcbcambkjhhhaaChecked
import Derived.Laws.Bits64
import Derived.ChangeArms
import Derived.OpenShut
import Derived.WideShapes
import Derived.ChangeShapes
import Derived.Carry
import Derived.DataReads
import Derived.KernelRfl
import Derived.Deep.LoopGhost
import Derived.Laws.Append
import Derived.Laws.AppendOwn
import Derived.Laws.MakeOwn
import Derived.Laws.StructEq
import Derived.Laws.Cells
import Derived.Laws.CopyRow
import Derived.Laws.Rows
import Derived.Below
import Derived.Orders
import Derived.ChangeKeysEq
import Derived.IntWalk
import Derived.Deep.CutRange
import Derived.WalkKit
import Derived.ProofKit
import Derived.Handy
import Derived.Lib.Hide
import Derived.Deep.WholeRow
import Derived.Deep.Cut
import Derived.Deep.RegionHeld3
import Derived.RegionTactic
import Derived.Test.YtbcbcambkjhhhaaMA
import Derived.Test.YtbcbcambkjhhhaaMB
import Derived.Test.YtbcbcambkjhhhaaMC
import Derived.Test.YtbcbcambkjhhhaaMD
import Derived.Test.YtbcbcambkjhhhaaME
import Derived.Test.YtbcbcambkjhhhaaMF
import Derived.Test.YtbcbcambkjhhhaaMG
import Derived.Test.YtbcbcambkjhhhaaMH
import Derived.Test.YtbcbcambkjhhhaaMI
import Derived.Test.YtbcbcambkjhhhaaMJ
import Derived.Test.YtbcbcambkjhhhaaMK
import Derived.Test.YtbcbcambkjhhhaaML
import Derived.Test.YtbcbcambkjhhhaaMM
import Derived.Test.YtbcbcambkjhhhaaMj1
import Derived.Test.YtbcbcambkjhhhaaMN
import Derived.Test.YtbcbcambkjhhhaaMO
import Derived.Test.YtbcbcambkjhhhaaMP
import Derived.Test.YtbcbcambkjhhhaaMQ
import Derived.Test.YtbcbcambkjhhhaaMS
import Derived.Test.YtbcbcambkjhhhaaMX
import Derived.Test.YtbcbcambkjhhhaaMY
import Derived.Test.YtbcbcambkjhhhaaMZ
import Derived.Test.YtbcbcambkjhhhaaMa1
import Derived.Test.YtbcbcambkjhhhaaMb1
import Derived.Test.YtbcbcambkjhhhaaMc1
import Derived.Test.YtbcbcambkjhhhaaMf1
namespace Go.Proofs.Ytbcbcambkjhhhaa.Sx.Z
open Go.RowKit
def dBad : D := .l [[.i 2, .i 0, .i 0, .l []], [.i 1, .i 0, .i 0, .l []]]
def dBig : D := .l [[.i 1, .i 2147483647, .i 0, .l []], [.i 1, .i 1, .i 0, .l []]]
def xBad : Xp := .mk 7 0 0 [.mk 2 0 0 [], .mk 1 0 0 []]
def xBig : Xp := .mk 4 0 0 [.mk 1 2147483647 0 [], .mk 1 1 0 []]
theorem exs_nil : exs (D.l []) = [] := List.length_eq_zero_iff.1 (by rw [exs_len]; rfl)
theorem ex_leaf (k n v : Int) : ex k n v (D.l []) = .mk k n v [] := by unfold ex; rw [exs_nil]
theorem ex_pair (k n v : Int) {d : D} (h : d.len = 2) {a b : Xp} (ha : exE d 0 = a) (hb : exE d 1 = b) : ex k n v d = .mk k n v [a, b] := by unfold ex; rw [exs_two h, ha, hb]
theorem eBad : ex 7 0 0 dBad = xBad := ex_pair _ _ _ rfl (ex_leaf 2 0 0) (ex_leaf 1 0 0)
theorem eBig : ex 4 0 0 dBig = xBig := ex_pair _ _ _ rfl (ex_leaf 1 2147483647 0) (ex_leaf 1 1 0)
theorem tBad : Tm 1 xBad := .bin _ _ _ (by decide) (by decide) (.var _ (by decide) (by decide)) (.num _ (by decide) (by decide))
theorem tBig : Tm 1 xBig := .bin _ _ _ (by decide) (by decide) (.num _ (by decide) (by decide)) (.num _ (by decide) (by decide))
theorem evBad (g : Int → Int) : evT g xBad = (0, 3) := by
  unfold xBad
  rw [ev_2, ev_0, ev_0, if_neg (by decide), if_pos rfl, opT_v rfl rfl]
  have : errP 7 (g 0) 0 = 3 := if_pos (by decide)
  dsimp only
  rw [this, if_neg (by decide)]
theorem evBig (g : Int → Int) : evT g xBig = (0, 2) := by
  unfold xBig
  rw [ev_2, ev_0, ev_0, if_pos rfl, if_pos rfl, opT_v rfl rfl]
  have : errP 4 2147483647 1 = 2 := by decide
  dsimp only
  rw [this, if_neg (by decide)]
noncomputable def eleftS : FSpec := fun ds _ => match ds with
  | [.i n, .i _kind] => some { val := .one (.sc (.bool (.sym (true)))), vc := [-2147483648 ≤ n ∧ n ≤ 2147483647] }
  | _ => none
noncomputable def eleftC : Con := con [.sc (.int .i32), iA] eleftS
theorem eleft_ok : ConOK Try.prog 11 eleftC := by
  refine fn_ob tt_ok mixed Try.func11 rfl (fun _ _ => by kernel_rfl) (A := fun ds => ⟨fun _ => Cons.of [(53, nzerosC), (34, iconstC), (52, nsetC), (41, evalC), (49, assumeC), (39, reckonsC), (46, emptyC)], fun _ => none, fun k => match k, ds with | 4, [.i n, .i kind] => some { ι := Bool, pre := fun _ _ => True, μ := fun _ => 0, st := fun s _ => famR s [(7, .one (.sc (.ptr (s.nx - 1) (.lit 0))))] [1, 4, 6] [(s.nx - 1, .own 32 ([.c (.int .i64 (.lit 7)), .c (.int .i64 (.lit 0)), .c (.int .i64 (.lit 0)), .c (.rows 32 dBad)])), (s.nx + 16, .gone)] [6] } | 5, [.i n, .i kind] => some { ι := Bool, pre := fun _ _ => True, μ := fun _ => 0, st := fun s _ => famR s [(8, .one (.sc (.ptr (s.nx - 2) (.lit 0))))] [1, 4, 6, 7] [(s.nx - 2, .own 32 ([.c (.int .i64 (.lit 4)), .c (.int .i64 (.lit 0)), .c (.int .i64 (.lit 0)), .c (.rows 32 dBig)])), (s.nx + 16, .gone)] [6, 7] } | _, _ => none⟩) (fun _ _ => (cons_cons nzeros_ok (cons_cons iconst_ok (cons_cons nset_ok (cons_cons eval_ok (cons_cons assume_ok (cons_cons reckons_ok (cons_cons empty_ok cons_nil)))))))) (by kernel_rfl) ?_
  intro ds fr
  unfold eleftS
  split
  · rename_i n kind
    refine kmp (q := (-2147483648 : Int) ≤ n ∧ n ≤ (2147483647 : Int) →
 Good (topN (1 : Int)) (false, fun (x : Nat) => (0 : Int)) ∧
 (itD (topN (1 : Int)).toNat (topN (1 : Int)) (false, fun (x : Nat) => (0 : Int))).len ≤ (1000 : Nat) ∧
 (∃ (i : Bool),
 True ∧
 nat_lit 0 + nat_lit 2 ≤ (D.l [[D.i (2 : Int), D.i (0 : Int), D.i (0 : Int), D.l []], [D.i (1 : Int), D.i (0 : Int), D.i (0 : Int), D.l []]]).len ∧
 nat_lit 0 + nat_lit 2 ≤ (D.l [[D.i (2 : Int), D.i (0 : Int), D.i (0 : Int), D.l []], [D.i (1 : Int), D.i (0 : Int), D.i (0 : Int), D.l []]]).len ∧
 nat_lit 0 + nat_lit 2 ≤
 (D.l [[D.i (2 : Int), D.i (0 : Int), D.i (0 : Int), D.l []], [D.i (1 : Int), D.i (0 : Int), D.i (0 : Int), D.l []]]).len ∧
 kind = kind ∧
 false = false ∧
 (7 : Int) = (7 : Int) ∧
 (0 : Int) = (0 : Int) ∧
 (0 : Int) = (0 : Int) ∧
 List.drop (nat_lit 0)
 (List.take (nat_lit 0 + nat_lit 2)
 [[D.i (2 : Int), D.i (0 : Int), D.i (0 : Int), D.l []], [D.i (1 : Int), D.i (0 : Int), D.i (0 : Int), D.l []]]) =
 [[D.i (2 : Int), D.i (0 : Int), D.i (0 : Int), D.l []], [D.i (1 : Int), D.i (0 : Int), D.i (0 : Int), D.l []]] ∧
 (metZ (topN (1 : Int)) (0 : Int) (ofLo (IntKind.i64.wrap n) (IntKind.i64.wrap n)) (ofHi (IntKind.i64.wrap n) (IntKind.i64.wrap n))
 (fgZ (topN (1 : Int)) (0 : Int) (false, fun (x : Nat) => (0 : Int)))).fst =
 (metZ (topN (1 : Int)) (0 : Int) (ofLo (IntKind.i64.wrap n) (IntKind.i64.wrap n))
 (ofHi (IntKind.i64.wrap n) (IntKind.i64.wrap n))
 (fgZ (topN (1 : Int)) (0 : Int) (false, fun (x : Nat) => (0 : Int)))).fst ∧
 List.map
 (fun (j : Nat) =>
 [D.i
 (itvLo (topN (1 : Int))
 (metZ (topN (1 : Int)) (0 : Int) (ofLo (IntKind.i64.wrap n) (IntKind.i64.wrap n))
 (ofHi (IntKind.i64.wrap n) (IntKind.i64.wrap n))
 (fgZ (topN (1 : Int)) (0 : Int) (false, fun (x : Nat) => (0 : Int)))).fst
 (metZ (topN (1 : Int)) (0 : Int) (ofLo (IntKind.i64.wrap n) (IntKind.i64.wrap n))
 (ofHi (IntKind.i64.wrap n) (IntKind.i64.wrap n))
 (fgZ (topN (1 : Int)) (0 : Int) (false, fun (x : Nat) => (0 : Int)))).snd
 (↑j : Int)),
 D.i
 (itvHi (topN (1 : Int))
 (metZ (topN (1 : Int)) (0 : Int) (ofLo (IntKind.i64.wrap n) (IntKind.i64.wrap n))
 (ofHi (IntKind.i64.wrap n) (IntKind.i64.wrap n))
 (fgZ (topN (1 : Int)) (0 : Int) (false, fun (x : Nat) => (0 : Int)))).fst
 (metZ (topN (1 : Int)) (0 : Int) (ofLo (IntKind.i64.wrap n) (IntKind.i64.wrap n))
 (ofHi (IntKind.i64.wrap n) (IntKind.i64.wrap n))
 (fgZ (topN (1 : Int)) (0 : Int) (false, fun (x : Nat) => (0 : Int)))).snd
 (↑j : Int))])
 (List.range (itD (topN (1 : Int)).toNat (topN (1 : Int)) (false, fun (x : Nat) => (0 : Int))).len) =
 List.map
 (fun (j : Nat) =>
 [D.i
 (itvLo (topN (1 : Int))
 (metZ (topN (1 : Int)) (0 : Int) (ofLo (IntKind.i64.wrap n) (IntKind.i64.wrap n))
 (ofHi (IntKind.i64.wrap n) (IntKind.i64.wrap n))
 (fgZ (topN (1 : Int)) (0 : Int) (false, fun (x : Nat) => (0 : Int)))).fst
 (metZ (topN (1 : Int)) (0 : Int) (ofLo (IntKind.i64.wrap n) (IntKind.i64.wrap n))
 (ofHi (IntKind.i64.wrap n) (IntKind.i64.wrap n))
 (fgZ (topN (1 : Int)) (0 : Int) (false, fun (x : Nat) => (0 : Int)))).snd
 (↑j : Int)),
 D.i
 (itvHi (topN (1 : Int))
 (metZ (topN (1 : Int)) (0 : Int) (ofLo (IntKind.i64.wrap n) (IntKind.i64.wrap n))
 (ofHi (IntKind.i64.wrap n) (IntKind.i64.wrap n))
 (fgZ (topN (1 : Int)) (0 : Int) (false, fun (x : Nat) => (0 : Int)))).fst
 (metZ (topN (1 : Int)) (0 : Int) (ofLo (IntKind.i64.wrap n) (IntKind.i64.wrap n))
 (ofHi (IntKind.i64.wrap n) (IntKind.i64.wrap n))
 (fgZ (topN (1 : Int)) (0 : Int) (false, fun (x : Nat) => (0 : Int)))).snd
 (↑j : Int))])
 (List.range (itD (topN (1 : Int)).toNat (topN (1 : Int)) (false, fun (x : Nat) => (0 : Int))).len) ∧
 topN (1 : Int) = topN (1 : Int) ∧
 (metZ (topN (1 : Int)) (0 : Int) (ofLo (IntKind.i64.wrap n) (IntKind.i64.wrap n))
 (ofHi (IntKind.i64.wrap n) (IntKind.i64.wrap n))
 (fgZ (topN (1 : Int)) (0 : Int) (false, fun (x : Nat) => (0 : Int)))).fst =
 (metZ (topN (1 : Int)) (0 : Int) (ofLo (IntKind.i64.wrap n) (IntKind.i64.wrap n))
 (ofHi (IntKind.i64.wrap n) (IntKind.i64.wrap n))
 (fgZ (topN (1 : Int)) (0 : Int) (false, fun (x : Nat) => (0 : Int)))).fst ∧
 ∀ (o : Nat),
 o < nat_lit 49 →
 (metZ (topN (1 : Int)) (0 : Int) (ofLo (IntKind.i64.wrap n) (IntKind.i64.wrap n))
 (ofHi (IntKind.i64.wrap n) (IntKind.i64.wrap n))
 (fgZ (topN (1 : Int)) (0 : Int) (false, fun (x : Nat) => (0 : Int)))).snd
 o =
 (metZ (topN (1 : Int)) (0 : Int) (ofLo (IntKind.i64.wrap n) (IntKind.i64.wrap n))
 (ofHi (IntKind.i64.wrap n) (IntKind.i64.wrap n))
 (fgZ (topN (1 : Int)) (0 : Int) (false, fun (x : Nat) => (0 : Int)))).snd
 o) ∧
 ∀ (i : Bool),
 True →
 (∃ (i : Bool),
 True ∧
 nat_lit 0 + nat_lit 2 ≤
 (D.l [[D.i (1 : Int), D.i (2147483647 : Int), D.i (0 : Int), D.l []], [D.i (1 : Int), D.i (1 : Int), D.i (0 : Int), D.l []]]).len ∧
 nat_lit 0 + nat_lit 2 ≤
 (D.l [[D.i (1 : Int), D.i (2147483647 : Int), D.i (0 : Int), D.l []], [D.i (1 : Int), D.i (1 : Int), D.i (0 : Int), D.l []]]).len ∧
 nat_lit 0 + nat_lit 2 ≤
 (D.l [[D.i (1 : Int), D.i (2147483647 : Int), D.i (0 : Int), D.l []], [D.i (1 : Int), D.i (1 : Int), D.i (0 : Int), D.l []]]).len ∧
 kind = kind ∧
 false = false ∧
 (4 : Int) = (4 : Int) ∧
 (0 : Int) = (0 : Int) ∧
 (0 : Int) = (0 : Int) ∧
 List.drop (nat_lit 0)
 (List.take (nat_lit 0 + nat_lit 2)
 [[D.i (1 : Int), D.i (2147483647 : Int), D.i (0 : Int), D.l []],
 [D.i (1 : Int), D.i (1 : Int), D.i (0 : Int), D.l []]]) =
 [[D.i (1 : Int), D.i (2147483647 : Int), D.i (0 : Int), D.l []], [D.i (1 : Int), D.i (1 : Int), D.i (0 : Int), D.l []]] ∧
 (metZ (topN (1 : Int)) (0 : Int) (ofLo (IntKind.i64.wrap n) (IntKind.i64.wrap n))
 (ofHi (IntKind.i64.wrap n) (IntKind.i64.wrap n))
 (fgZ (topN (1 : Int)) (0 : Int) (false, fun (x : Nat) => (0 : Int)))).fst =
 (metZ (topN (1 : Int)) (0 : Int) (ofLo (IntKind.i64.wrap n) (IntKind.i64.wrap n))
 (ofHi (IntKind.i64.wrap n) (IntKind.i64.wrap n))
 (fgZ (topN (1 : Int)) (0 : Int) (false, fun (x : Nat) => (0 : Int)))).fst ∧
 List.map
 (fun (j : Nat) =>
 [D.i
 (itvLo (topN (1 : Int))
 (metZ (topN (1 : Int)) (0 : Int) (ofLo (IntKind.i64.wrap n) (IntKind.i64.wrap n))
 (ofHi (IntKind.i64.wrap n) (IntKind.i64.wrap n))
 (fgZ (topN (1 : Int)) (0 : Int) (false, fun (x : Nat) => (0 : Int)))).fst
 (metZ (topN (1 : Int)) (0 : Int) (ofLo (IntKind.i64.wrap n) (IntKind.i64.wrap n))
 (ofHi (IntKind.i64.wrap n) (IntKind.i64.wrap n))
 (fgZ (topN (1 : Int)) (0 : Int) (false, fun (x : Nat) => (0 : Int)))).snd
 (↑j : Int)),
 D.i
 (itvHi (topN (1 : Int))
 (metZ (topN (1 : Int)) (0 : Int) (ofLo (IntKind.i64.wrap n) (IntKind.i64.wrap n))
 (ofHi (IntKind.i64.wrap n) (IntKind.i64.wrap n))
 (fgZ (topN (1 : Int)) (0 : Int) (false, fun (x : Nat) => (0 : Int)))).fst
 (metZ (topN (1 : Int)) (0 : Int) (ofLo (IntKind.i64.wrap n) (IntKind.i64.wrap n))
 (ofHi (IntKind.i64.wrap n) (IntKind.i64.wrap n))
 (fgZ (topN (1 : Int)) (0 : Int) (false, fun (x : Nat) => (0 : Int)))).snd
 (↑j : Int))])
 (List.range (itD (topN (1 : Int)).toNat (topN (1 : Int)) (false, fun (x : Nat) => (0 : Int))).len) =
 List.map
 (fun (j : Nat) =>
 [D.i
 (itvLo (topN (1 : Int))
 (metZ (topN (1 : Int)) (0 : Int) (ofLo (IntKind.i64.wrap n) (IntKind.i64.wrap n))
 (ofHi (IntKind.i64.wrap n) (IntKind.i64.wrap n))
 (fgZ (topN (1 : Int)) (0 : Int) (false, fun (x : Nat) => (0 : Int)))).fst
 (metZ (topN (1 : Int)) (0 : Int) (ofLo (IntKind.i64.wrap n) (IntKind.i64.wrap n))
 (ofHi (IntKind.i64.wrap n) (IntKind.i64.wrap n))
 (fgZ (topN (1 : Int)) (0 : Int) (false, fun (x : Nat) => (0 : Int)))).snd
 (↑j : Int)),
 D.i
 (itvHi (topN (1 : Int))
 (metZ (topN (1 : Int)) (0 : Int) (ofLo (IntKind.i64.wrap n) (IntKind.i64.wrap n))
 (ofHi (IntKind.i64.wrap n) (IntKind.i64.wrap n))
 (fgZ (topN (1 : Int)) (0 : Int) (false, fun (x : Nat) => (0 : Int)))).fst
 (metZ (topN (1 : Int)) (0 : Int) (ofLo (IntKind.i64.wrap n) (IntKind.i64.wrap n))
 (ofHi (IntKind.i64.wrap n) (IntKind.i64.wrap n))
 (fgZ (topN (1 : Int)) (0 : Int) (false, fun (x : Nat) => (0 : Int)))).snd
 (↑j : Int))])
 (List.range (itD (topN (1 : Int)).toNat (topN (1 : Int)) (false, fun (x : Nat) => (0 : Int))).len) ∧
 topN (1 : Int) = topN (1 : Int) ∧
 (metZ (topN (1 : Int)) (0 : Int) (ofLo (IntKind.i64.wrap n) (IntKind.i64.wrap n))
 (ofHi (IntKind.i64.wrap n) (IntKind.i64.wrap n))
 (fgZ (topN (1 : Int)) (0 : Int) (false, fun (x : Nat) => (0 : Int)))).fst =
 (metZ (topN (1 : Int)) (0 : Int) (ofLo (IntKind.i64.wrap n) (IntKind.i64.wrap n))
 (ofHi (IntKind.i64.wrap n) (IntKind.i64.wrap n))
 (fgZ (topN (1 : Int)) (0 : Int) (false, fun (x : Nat) => (0 : Int)))).fst ∧
 (∀ (o : Nat),
 o < nat_lit 49 →
 (metZ (topN (1 : Int)) (0 : Int) (ofLo (IntKind.i64.wrap n) (IntKind.i64.wrap n))
 (ofHi (IntKind.i64.wrap n) (IntKind.i64.wrap n))
 (fgZ (topN (1 : Int)) (0 : Int) (false, fun (x : Nat) => (0 : Int)))).snd
 o =
 (metZ (topN (1 : Int)) (0 : Int) (ofLo (IntKind.i64.wrap n) (IntKind.i64.wrap n))
 (ofHi (IntKind.i64.wrap n) (IntKind.i64.wrap n))
 (fgZ (topN (1 : Int)) (0 : Int) (false, fun (x : Nat) => (0 : Int)))).snd
 o) ∧
 (7 : Int) = (7 : Int) ∧
 (0 : Int) = (0 : Int) ∧
 (0 : Int) = (0 : Int) ∧
 [[D.i (2 : Int), D.i (0 : Int), D.i (0 : Int), D.l []],
 [D.i (1 : Int), D.i (0 : Int), D.i (0 : Int), D.l []]] =
 [[D.i (2 : Int), D.i (0 : Int), D.i (0 : Int), D.l []],
 [D.i (1 : Int), D.i (0 : Int), D.i (0 : Int), D.l []]]) ∧
 ∀ (i : Bool),
 True →
 (0 : Nat) + (2 : Nat) ≤ (D.l [[D.i (7 : Int), D.i (0 : Int), D.i (0 : Int), dBad], [D.i (4 : Int), D.i (0 : Int), D.i (0 : Int), dBig]]).len ∧
 NumOK (topN (1 : Int))
 (metZ (topN (1 : Int)) (0 : Int) (ofLo (IntKind.i64.wrap n) (IntKind.i64.wrap n)) (ofHi (IntKind.i64.wrap n) (IntKind.i64.wrap n))
 (fgZ (topN (1 : Int)) (0 : Int) (false, fun (x : Nat) => (0 : Int)))).fst
 (itD (itD (topN (1 : Int)).toNat (topN (1 : Int)) (false, fun (x : Nat) => (0 : Int))).len (topN (1 : Int))
 (metZ (topN (1 : Int)) (0 : Int) (ofLo (IntKind.i64.wrap n) (IntKind.i64.wrap n)) (ofHi (IntKind.i64.wrap n) (IntKind.i64.wrap n))
 (fgZ (topN (1 : Int)) (0 : Int) (false, fun (x : Nat) => (0 : Int)))))
 (metZ (topN (1 : Int)) (0 : Int) (ofLo (IntKind.i64.wrap n) (IntKind.i64.wrap n)) (ofHi (IntKind.i64.wrap n) (IntKind.i64.wrap n))
 (fgZ (topN (1 : Int)) (0 : Int) (false, fun (x : Nat) => (0 : Int)))).fst
 (metZ (topN (1 : Int)) (0 : Int) (ofLo (IntKind.i64.wrap n) (IntKind.i64.wrap n)) (ofHi (IntKind.i64.wrap n) (IntKind.i64.wrap n))
 (fgZ (topN (1 : Int)) (0 : Int) (false, fun (x : Nat) => (0 : Int)))).snd ∧
 (0 : Nat) + (2 : Nat) ≤
 (D.l [[D.i (4 : Int), D.i (0 : Int), D.i (0 : Int), dBig], [D.i (7 : Int), D.i (0 : Int), D.i (0 : Int), dBad]]).len ∧
 NumOK (topN (1 : Int))
 (metZ (topN (1 : Int)) (0 : Int) (ofLo (IntKind.i64.wrap n) (IntKind.i64.wrap n)) (ofHi (IntKind.i64.wrap n) (IntKind.i64.wrap n))
 (fgZ (topN (1 : Int)) (0 : Int) (false, fun (x : Nat) => (0 : Int)))).fst
 (itD (itD (topN (1 : Int)).toNat (topN (1 : Int)) (false, fun (x : Nat) => (0 : Int))).len (topN (1 : Int))
 (metZ (topN (1 : Int)) (0 : Int) (ofLo (IntKind.i64.wrap n) (IntKind.i64.wrap n)) (ofHi (IntKind.i64.wrap n) (IntKind.i64.wrap n))
 (fgZ (topN (1 : Int)) (0 : Int) (false, fun (x : Nat) => (0 : Int)))))
 (metZ (topN (1 : Int)) (0 : Int) (ofLo (IntKind.i64.wrap n) (IntKind.i64.wrap n)) (ofHi (IntKind.i64.wrap n) (IntKind.i64.wrap n))
 (fgZ (topN (1 : Int)) (0 : Int) (false, fun (x : Nat) => (0 : Int)))).fst
 (metZ (topN (1 : Int)) (0 : Int) (ofLo (IntKind.i64.wrap n) (IntKind.i64.wrap n)) (ofHi (IntKind.i64.wrap n) (IntKind.i64.wrap n))
 (fgZ (topN (1 : Int)) (0 : Int) (false, fun (x : Nat) => (0 : Int)))).snd ∧
 NumOK (topN (1 : Int))
 (metZ (topN (1 : Int)) (0 : Int) (ofLo (IntKind.i64.wrap n) (IntKind.i64.wrap n)) (ofHi (IntKind.i64.wrap n) (IntKind.i64.wrap n))
 (fgZ (topN (1 : Int)) (0 : Int) (false, fun (x : Nat) => (0 : Int)))).fst
 (itD (itD (topN (1 : Int)).toNat (topN (1 : Int)) (false, fun (x : Nat) => (0 : Int))).len (topN (1 : Int))
 (metZ (topN (1 : Int)) (0 : Int) (ofLo (IntKind.i64.wrap n) (IntKind.i64.wrap n))
 (ofHi (IntKind.i64.wrap n) (IntKind.i64.wrap n)) (fgZ (topN (1 : Int)) (0 : Int) (false, fun (x : Nat) => (0 : Int)))))
 (metZ (topN (1 : Int)) (0 : Int) (ofLo (IntKind.i64.wrap n) (IntKind.i64.wrap n)) (ofHi (IntKind.i64.wrap n) (IntKind.i64.wrap n))
 (fgZ (topN (1 : Int)) (0 : Int) (false, fun (x : Nat) => (0 : Int)))).fst
 (metZ (topN (1 : Int)) (0 : Int) (ofLo (IntKind.i64.wrap n) (IntKind.i64.wrap n)) (ofHi (IntKind.i64.wrap n) (IntKind.i64.wrap n))
 (fgZ (topN (1 : Int)) (0 : Int) (false, fun (x : Nat) => (0 : Int)))).snd ∧
 (0 : Int) < topN (1 : Int) ∧
 (true &&
 decide
 ((evaP (topN (1 : Int)).toNat (topN (1 : Int))
 ((metZ (topN (1 : Int)) (0 : Int) (ofLo (IntKind.i64.wrap n) (IntKind.i64.wrap n))
 (ofHi (IntKind.i64.wrap n) (IntKind.i64.wrap n))
 (fgZ (topN (1 : Int)) (0 : Int) (false, fun (x : Nat) => (0 : Int)))).fst,
 (metZ (topN (1 : Int)) (0 : Int) (ofLo (IntKind.i64.wrap n) (IntKind.i64.wrap n))
 (ofHi (IntKind.i64.wrap n) (IntKind.i64.wrap n))
 (fgZ (topN (1 : Int)) (0 : Int) (false, fun (x : Nat) => (0 : Int)))).snd)
 (ex (IntKind.i64.wrap ((4 : Int) + IntKind.i64.wrap ((IntKind.u64.wrap kind).tmod (5 : Int)))) (0 : Int)
 (0 : Int)
 ((D.l
 [[D.i (7 : Int), D.i (0 : Int), D.i (0 : Int), dBad],
 [D.i (4 : Int), D.i (0 : Int), D.i (0 : Int), dBig]]).sub
 (0 : Nat) ((0 : Nat) + (2 : Nat))))).fst.snd <
 (evaP (topN (1 : Int)).toNat (topN (1 : Int))
 ((metZ (topN (1 : Int)) (0 : Int) (ofLo (IntKind.i64.wrap n) (IntKind.i64.wrap n))
 (ofHi (IntKind.i64.wrap n) (IntKind.i64.wrap n))
 (fgZ (topN (1 : Int)) (0 : Int) (false, fun (x : Nat) => (0 : Int)))).fst,
 (metZ (topN (1 : Int)) (0 : Int) (ofLo (IntKind.i64.wrap n) (IntKind.i64.wrap n))
 (ofHi (IntKind.i64.wrap n) (IntKind.i64.wrap n))
 (fgZ (topN (1 : Int)) (0 : Int) (false, fun (x : Nat) => (0 : Int)))).snd)
 (ex (IntKind.i64.wrap ((4 : Int) + IntKind.i64.wrap ((IntKind.u64.wrap kind).tmod (5 : Int)))) (0 : Int)
 (0 : Int)
 ((D.l
 [[D.i (7 : Int), D.i (0 : Int), D.i (0 : Int), dBad],
 [D.i (4 : Int), D.i (0 : Int), D.i (0 : Int), dBig]]).sub
 (0 : Nat) ((0 : Nat) + (2 : Nat))))).fst.fst) &&
 decide
 ((evaP (topN (1 : Int)).toNat (topN (1 : Int))
 ((metZ (topN (1 : Int)) (0 : Int) (ofLo (IntKind.i64.wrap n) (IntKind.i64.wrap n))
 (ofHi (IntKind.i64.wrap n) (IntKind.i64.wrap n))
 (fgZ (topN (1 : Int)) (0 : Int) (false, fun (x : Nat) => (0 : Int)))).fst,
 (metZ (topN (1 : Int)) (0 : Int) (ofLo (IntKind.i64.wrap n) (IntKind.i64.wrap n))
 (ofHi (IntKind.i64.wrap n) (IntKind.i64.wrap n))
 (fgZ (topN (1 : Int)) (0 : Int) (false, fun (x : Nat) => (0 : Int)))).snd)
 (ex (IntKind.i64.wrap ((4 : Int) + IntKind.i64.wrap ((IntKind.u64.wrap kind).tmod (5 : Int)))) (0 : Int)
 (0 : Int)
 ((D.l
 [[D.i (4 : Int), D.i (0 : Int), D.i (0 : Int), dBig],
 [D.i (7 : Int), D.i (0 : Int), D.i (0 : Int), dBad]]).sub
 (0 : Nat) ((0 : Nat) + (2 : Nat))))).fst.snd <
 (evaP (topN (1 : Int)).toNat (topN (1 : Int))
 ((metZ (topN (1 : Int)) (0 : Int) (ofLo (IntKind.i64.wrap n) (IntKind.i64.wrap n))
 (ofHi (IntKind.i64.wrap n) (IntKind.i64.wrap n))
 (fgZ (topN (1 : Int)) (0 : Int) (false, fun (x : Nat) => (0 : Int)))).fst,
 (metZ (topN (1 : Int)) (0 : Int) (ofLo (IntKind.i64.wrap n) (IntKind.i64.wrap n))
 (ofHi (IntKind.i64.wrap n) (IntKind.i64.wrap n))
 (fgZ (topN (1 : Int)) (0 : Int) (false, fun (x : Nat) => (0 : Int)))).snd)
 (ex (IntKind.i64.wrap ((4 : Int) + IntKind.i64.wrap ((IntKind.u64.wrap kind).tmod (5 : Int)))) (0 : Int)
 (0 : Int)
 ((D.l
 [[D.i (4 : Int), D.i (0 : Int), D.i (0 : Int), dBig],
 [D.i (7 : Int), D.i (0 : Int), D.i (0 : Int), dBad]]).sub
 (0 : Nat) ((0 : Nat) + (2 : Nat))))).fst.fst) &&
 ((evaP (topN (1 : Int)).toNat (topN (1 : Int))
 ((metZ (topN (1 : Int)) (0 : Int) (ofLo (IntKind.i64.wrap n) (IntKind.i64.wrap n))
 (ofHi (IntKind.i64.wrap n) (IntKind.i64.wrap n))
 (fgZ (topN (1 : Int)) (0 : Int) (false, fun (x : Nat) => (0 : Int)))).fst,
 (metZ (topN (1 : Int)) (0 : Int) (ofLo (IntKind.i64.wrap n) (IntKind.i64.wrap n))
 (ofHi (IntKind.i64.wrap n) (IntKind.i64.wrap n))
 (fgZ (topN (1 : Int)) (0 : Int) (false, fun (x : Nat) => (0 : Int)))).snd)
 (ex (IntKind.i64.wrap ((4 : Int) + IntKind.i64.wrap ((IntKind.u64.wrap kind).tmod (5 : Int)))) (0 : Int)
 (0 : Int)
 ((D.l
 [[D.i (7 : Int), D.i (0 : Int), D.i (0 : Int), dBad],
 [D.i (4 : Int), D.i (0 : Int), D.i (0 : Int), dBig]]).sub
 (0 : Nat) ((0 : Nat) + (2 : Nat))))).snd.fst ==
 false &&
 ((evaP (topN (1 : Int)).toNat (topN (1 : Int))
 ((metZ (topN (1 : Int)) (0 : Int) (ofLo (IntKind.i64.wrap n) (IntKind.i64.wrap n))
 (ofHi (IntKind.i64.wrap n) (IntKind.i64.wrap n))
 (fgZ (topN (1 : Int)) (0 : Int) (false, fun (x : Nat) => (0 : Int)))).fst,
 (metZ (topN (1 : Int)) (0 : Int) (ofLo (IntKind.i64.wrap n) (IntKind.i64.wrap n))
 (ofHi (IntKind.i64.wrap n) (IntKind.i64.wrap n))
 (fgZ (topN (1 : Int)) (0 : Int) (false, fun (x : Nat) => (0 : Int)))).snd)
 (ex (IntKind.i64.wrap ((4 : Int) + IntKind.i64.wrap ((IntKind.u64.wrap kind).tmod (5 : Int)))) (0 : Int)
 (0 : Int)
 ((D.l
 [[D.i (7 : Int), D.i (0 : Int), D.i (0 : Int), dBad],
 [D.i (4 : Int), D.i (0 : Int), D.i (0 : Int), dBig]]).sub
 (0 : Nat) ((0 : Nat) + (2 : Nat))))).snd.snd ==
 true &&
 true)) &&
 ((evaP (topN (1 : Int)).toNat (topN (1 : Int))
 ((metZ (topN (1 : Int)) (0 : Int) (ofLo (IntKind.i64.wrap n) (IntKind.i64.wrap n))
 (ofHi (IntKind.i64.wrap n) (IntKind.i64.wrap n))
 (fgZ (topN (1 : Int)) (0 : Int) (false, fun (x : Nat) => (0 : Int)))).fst,
 (metZ (topN (1 : Int)) (0 : Int) (ofLo (IntKind.i64.wrap n) (IntKind.i64.wrap n))
 (ofHi (IntKind.i64.wrap n) (IntKind.i64.wrap n))
 (fgZ (topN (1 : Int)) (0 : Int) (false, fun (x : Nat) => (0 : Int)))).snd)
 (ex (IntKind.i64.wrap ((4 : Int) + IntKind.i64.wrap ((IntKind.u64.wrap kind).tmod (5 : Int)))) (0 : Int)
 (0 : Int)
 ((D.l
 [[D.i (4 : Int), D.i (0 : Int), D.i (0 : Int), dBig],
 [D.i (7 : Int), D.i (0 : Int), D.i (0 : Int), dBad]]).sub
 (0 : Nat) ((0 : Nat) + (2 : Nat))))).snd.fst ==
 true &&
 ((evaP (topN (1 : Int)).toNat (topN (1 : Int))
 ((metZ (topN (1 : Int)) (0 : Int) (ofLo (IntKind.i64.wrap n) (IntKind.i64.wrap n))
 (ofHi (IntKind.i64.wrap n) (IntKind.i64.wrap n))
 (fgZ (topN (1 : Int)) (0 : Int) (false, fun (x : Nat) => (0 : Int)))).fst,
 (metZ (topN (1 : Int)) (0 : Int) (ofLo (IntKind.i64.wrap n) (IntKind.i64.wrap n))
 (ofHi (IntKind.i64.wrap n) (IntKind.i64.wrap n))
 (fgZ (topN (1 : Int)) (0 : Int) (false, fun (x : Nat) => (0 : Int)))).snd)
 (ex (IntKind.i64.wrap ((4 : Int) + IntKind.i64.wrap ((IntKind.u64.wrap kind).tmod (5 : Int)))) (0 : Int)
 (0 : Int)
 ((D.l
 [[D.i (4 : Int), D.i (0 : Int), D.i (0 : Int), dBig],
 [D.i (7 : Int), D.i (0 : Int), D.i (0 : Int), dBad]]).sub
 (0 : Nat) ((0 : Nat) + (2 : Nat))))).snd.snd ==
 false &&
 true)) &&
 (asmZ (topN (1 : Int)) (1 : Int) (ex (7 : Int) (0 : Int) (0 : Int) dBad) (ex (4 : Int) (0 : Int) (0 : Int) dBig)
 ((metZ (topN (1 : Int)) (0 : Int) (ofLo (IntKind.i64.wrap n) (IntKind.i64.wrap n))
 (ofHi (IntKind.i64.wrap n) (IntKind.i64.wrap n))
 (fgZ (topN (1 : Int)) (0 : Int) (false, fun (x : Nat) => (0 : Int)))).fst,
 (metZ (topN (1 : Int)) (0 : Int) (ofLo (IntKind.i64.wrap n) (IntKind.i64.wrap n))
 (ofHi (IntKind.i64.wrap n) (IntKind.i64.wrap n))
 (fgZ (topN (1 : Int)) (0 : Int) (false, fun (x : Nat) => (0 : Int)))).snd)).fst.fst &&
 ((asmZ (topN (1 : Int)) (1 : Int) (ex (7 : Int) (0 : Int) (0 : Int) dBad) (ex (4 : Int) (0 : Int) (0 : Int) dBig)
 ((metZ (topN (1 : Int)) (0 : Int) (ofLo (IntKind.i64.wrap n) (IntKind.i64.wrap n))
 (ofHi (IntKind.i64.wrap n) (IntKind.i64.wrap n))
 (fgZ (topN (1 : Int)) (0 : Int) (false, fun (x : Nat) => (0 : Int)))).fst,
 (metZ (topN (1 : Int)) (0 : Int) (ofLo (IntKind.i64.wrap n) (IntKind.i64.wrap n))
 (ofHi (IntKind.i64.wrap n) (IntKind.i64.wrap n))
 (fgZ (topN (1 : Int)) (0 : Int) (false, fun (x : Nat) => (0 : Int)))).snd)).snd.fst ==
 false &&
 ((asmZ (topN (1 : Int)) (1 : Int) (ex (7 : Int) (0 : Int) (0 : Int) dBad) (ex (4 : Int) (0 : Int) (0 : Int) dBig)
 ((metZ (topN (1 : Int)) (0 : Int) (ofLo (IntKind.i64.wrap n) (IntKind.i64.wrap n))
 (ofHi (IntKind.i64.wrap n) (IntKind.i64.wrap n))
 (fgZ (topN (1 : Int)) (0 : Int) (false, fun (x : Nat) => (0 : Int)))).fst,
 (metZ (topN (1 : Int)) (0 : Int) (ofLo (IntKind.i64.wrap n) (IntKind.i64.wrap n))
 (ofHi (IntKind.i64.wrap n) (IntKind.i64.wrap n))
 (fgZ (topN (1 : Int)) (0 : Int) (false, fun (x : Nat) => (0 : Int)))).snd)).snd.snd ==
 true &&
 true))) =
 true) (by kernel_rfl) ?_
    intro hn
    have tn : topN 1 = 1 := rfl
    have wn : IntKind.i64.wrap n = n := wr _ (by omega)
    have s0 : Sg 1 (false, fun _ => 0) (fun _ => 0) := by
      have z0 : ∀ i : Nat, (if i = 0 then (0 : Int) else if i ≤ 0 then 0 else 0) = 0 := fun i => by (repeat' split) <;> rfl
      have := (row_sg (n := 1) (by omega) (g := fun _ => 0) (fun i hi => by omega) 0 (by omega))
      exact ⟨this.1, pt_congr (fun i _ => z0 i) this.2.1, fun v hv i hi => (this.2.2 v hv i hi).trans (z0 i)⟩
    have s1 := sg_set s0 (x := 0) (c := n) rfl hn
    have ez : metZ 1 0 (ofLo n n) (ofHi n n) (fgZ 1 0 (false, fun _ => 0)) = setC 1 0 n (false, fun _ => 0) := rfl
    simp only [tn, wn, ez, itD_len]
    generalize setC 1 0 n (false, fun _ => 0) = z at *
    have hr : (R 1 : Int) = 2 := by rw [(R_le 1).2.2, rows_n (by omega)]; rfl
    have hp : ∀ i, i < R 1 → upd (fun _ => 0) (0 + 1 : Int).toNat n i = vz (fun _ => n) i := fun i hi => by
      unfold upd vz
      have : i = 0 ∨ i = 1 := by omega
      rcases this with rfl | rfl <;> rfl
    have sz : Sg 1 z (vz fun _ => n) := ⟨s1.1, pt_congr hp s1.2.1, fun v hv i hi => (s1.2.2 v hv i hi).trans (hp i hi)⟩
    have hI : InV 1 (gI fun _ => n) := fun v _ _ => hn
    have hK : 4 ≤ IntKind.i64.wrap (4 + IntKind.i64.wrap ((IntKind.u64.wrap kind).tmod 5)) ∧ IntKind.i64.wrap (4 + IntKind.i64.wrap ((IntKind.u64.wrap kind).tmod 5)) ≤ 8 := by
      have h := modU_in (a := kind) (b := 5) (by omega)
      have e : IntKind.u64.wrap 5 = 5 := by decide
      unfold modU at h
      rw [e] at h
      rw [wr _ (by omega)]; omega
    generalize IntKind.i64.wrap (4 + IntKind.i64.wrap ((IntKind.u64.wrap kind).tmod 5)) = K at *
    have e1 : ex K 0 0 ((D.l [[D.i 7, D.i 0, D.i 0, dBad], [D.i 4, D.i 0, D.i 0, dBig]]).sub 0 (0 + 2)) = .mk K 0 0 [xBad, xBig] := ex_pair _ _ _ rfl eBad eBig
    have e2 : ex K 0 0 ((D.l [[D.i 4, D.i 0, D.i 0, dBig], [D.i 7, D.i 0, D.i 0, dBad]]).sub 0 (0 + 2)) = .mk K 0 0 [xBig, xBad] := ex_pair _ _ _ rfl eBig eBad
    have t1 : Tm 1 (.mk K 0 0 [xBad, xBig]) := .bin _ _ _ hK.1 hK.2 tBad tBig
    have t2 : Tm 1 (.mk K 0 0 [xBig, xBad]) := .bin _ _ _ hK.1 hK.2 tBig tBad
    have v1 : evaP (Int.toNat 1) 1 (z.1, z.2) (.mk K 0 0 [xBad, xBig]) = ((1, 0), (false, true)) := by
      unfold evaP
      rw [if_neg (by rw [sz.2.1.1]; simp)]
      have := eva_alone sz.1 (by omega) hI t1 sz
      rw [ev_2, evBad, evBig, opT_l (by decide)] at this
      exact this
    have v2 : evaP (Int.toNat 1) 1 (z.1, z.2) (.mk K 0 0 [xBig, xBad]) = ((1, 0), (true, false)) := by
      unfold evaP
      rw [if_neg (by rw [sz.2.1.1]; simp)]
      have := eva_alone sz.1 (by omega) hI t2 sz
      rw [ev_2, evBad, evBig, opT_l (by decide)] at this
      exact this
    have a := asm_alone sz.1 (by omega) tBad tBig hI sz (op := 1) (by decide)
    rw [evBad, evBig] at a
    have a1 : (asmZ 1 1 xBad xBig (z.1, z.2)).1.1 = true := a.1
    have a2 : (asmZ 1 1 xBad xBig (z.1, z.2)).2 = (false, true) := a.2
    simp only [e1, e2, eBad, eBig, v1, v2, a1, a2]
    refine ⟨s0.1, by decide, ⟨true, trivial, Nat.le_refl 2, Nat.le_refl 2, Nat.le_refl 2, ?_⟩, fun _ _ => ⟨⟨true, trivial, Nat.le_refl 2, Nat.le_refl 2, Nat.le_refl 2, ?_⟩, fun _ _ => ⟨Nat.le_refl 2, numOK_of sz.1, Nat.le_refl 2, numOK_of sz.1, numOK_of sz.1, by decide, by decide⟩⟩⟩
    · (repeat' apply And.intro) <;> first | rfl | trivial | exact fun _ _ => trivial
    · (repeat' apply And.intro) <;> first | rfl | trivial | exact fun _ _ => trivial
  · trivial
end Go.Proofs.Ytbcbcambkjhhhaa.Sx.Z
