/-
  EvalAlone's contract.
-/
import Derived.Test.YtbcbcambkjhhhaaProg
import Derived.Test.YtbcbcambkjhhhaaChecked
import Derived.Laws.Bits64
import Derived.ChangeArms
import Derived.OpenShut
import Derived.WideShapes
import Derived.ChangeShapes
import Derived.Carry
import Derived.DataReads
import Derived.KernelRfl
import Derived.Deep.LoopGhost
import Derived.Laws.Append
import Derived.Laws.AppendOwn
import Derived.Laws.MakeOwn
import Derived.Laws.StructEq
import Derived.Laws.Cells
import Derived.Laws.CopyRow
import Derived.Laws.Rows
import Derived.Below
import Derived.Orders
import Derived.ChangeKeysEq
import Derived.IntWalk
import Derived.Deep.CutRange
import Derived.WalkKit
import Derived.ProofKit
import Derived.Handy
import Derived.Lib.Hide
import Derived.Deep.WholeRow
import Derived.Deep.Cut
import Derived.Deep.RegionHeld3
import Derived.RegionTactic
import Derived.Test.YtbcbcambkjhhhaaMA
import Derived.Test.YtbcbcambkjhhhaaMB
import Derived.Test.YtbcbcambkjhhhaaMC
import Derived.Test.YtbcbcambkjhhhaaMD
import Derived.Test.YtbcbcambkjhhhaaME
import Derived.Test.YtbcbcambkjhhhaaMF
import Derived.Test.YtbcbcambkjhhhaaMG
import Derived.Test.YtbcbcambkjhhhaaMH
import Derived.Test.YtbcbcambkjhhhaaMI
import Derived.Test.YtbcbcambkjhhhaaMJ
import Derived.Test.YtbcbcambkjhhhaaMK
import Derived.Test.YtbcbcambkjhhhaaML
import Derived.Test.YtbcbcambkjhhhaaMM
import Derived.Test.YtbcbcambkjhhhaaMj1
import Derived.Test.YtbcbcambkjhhhaaMN
import Derived.Test.YtbcbcambkjhhhaaMO
import Derived.Test.YtbcbcambkjhhhaaMP
import Derived.Test.YtbcbcambkjhhhaaMQ
import Derived.Test.YtbcbcambkjhhhaaMV
import Derived.Test.YtbcbcambkjhhhaaMW
import Derived.Test.YtbcbcambkjhhhaaMX
import Derived.Test.YtbcbcambkjhhhaaMY
import Derived.Test.YtbcbcambkjhhhaaMZ
import Derived.Test.YtbcbcambkjhhhaaMa1
import Derived.Test.YtbcbcambkjhhhaaMb1
import Derived.Test.YtbcbcambkjhhhaaMc1
import Derived.Test.YtbcbcambkjhhhaaMd1
import Derived.Test.YtbcbcambkjhhhaaMi1
namespace Go.Proofs.Ytbcbcambkjhhhaa.Sx.Z
open Go.RowKit
theorem sg_within {n : Int} {a b : Zs} {p : Nat → Int} (ha : Sg n a p) (hb : Sg n b p) : withinP n a.1 a.2 n b.1 b.2 = true :=
  within_pts ha.1 fun v hv => pt_congr (fun i hi => (ha.2.2 v hv i hi).symm) hb.2.1
theorem row_sub (a : Nat → Int) : (rowI 3 fun j => a j).sub 0 (0 + 3) = rowI 3 (hz a) := rfl
theorem row_upd (a : Nat → Int) (k : Nat) (hk : k < 3) (m : Int) : ((((rowI 3 fun j => a j).setc [K.int IntKind.i64].length k 0 [D.i m]).rows.take (0 + 3)).drop 0) = (rowI 3 (upd (hz a) k m)).rows := by
  have : k = 0 ∨ k = 1 ∨ k = 2 := by omega
  rcases this with rfl | rfl | rfl <;> rfl
theorem row_ulen (a : Nat → Int) (k : Nat) (hk : k < 3) (m : Int) : 0 + 3 ≤ ((rowI 3 fun j => a j).setc [K.int IntKind.i64].length k 0 [D.i m]).len := by
  have : k = 0 ∨ k = 1 ∨ k = 2 := by omega
  rcases this with rfl | rfl | rfl <;> exact Nat.le_refl 3
theorem rowZ_row (u : Nat → Int) : rowZ ((rowI 3 u).len : Int) (fun j => vD (rowI 3 u) (j : Nat)) (rowI 3 u).len = rowZ 3 u 3 := rfl
theorem one_row {a : Nat → Int} (hab : ∀ j, j < 3 → -2147483648 ≤ a j ∧ a j ≤ 2147483647) : Sg 3 (jnZ 3 (rowZ 3 a 3) (rowZ 3 a 3)) (vz (hz a)) := by
  have sa := row_all (n := 3) (by omega) (g := a) (fun i hi => hab i (by omega))
  have sj := sg_jn sa sa
  exact ⟨sj.1, pt_congr (fun i hi => vz_hz _ hi) sj.2.1, fun v hv i hi => (sj.2.2 v hv i hi).trans (vz_hz _ hi)⟩
noncomputable def ealoneS : FSpec := fun ds _ => match ds with
  | [.i _k, .i _n, .i _v, .d _d, .f a, .i _x] => some { val := .one (.sc (.bool (.sym (true)))), vc := [∀ j, j < 3 → (-2147483648 ≤ a j ∧ a j ≤ 2147483647)] }
  | _ => none
noncomputable def ealoneC : Con := con [rxpA, .agg [.ints .i32 3], iA] ealoneS
theorem ealone_ok : ConOK Try.prog 8 ealoneC := by
  refine fn_ob tt_ok mixed Try.func8 rfl (fun _ _ => by kernel_rfl) (A := fun ds => ⟨fun _ => Cons.of [(36, tameC), (40, nrowsC), (16, revC), (15, copyXC), (41, evalC), (42, assignC), (39, reckonsC), (43, nhasC), (46, emptyC), (34, iconstC), (48, nrowC), (47, nwithinC)], fun _ => none, fun k => match k, ds with | 12, [.i k, .i n, .i v, .d d, .f a, .i x] => some { ι := Bool, pre := fun _ _ => True, μ := fun _ => 0, st := fun s _ => famR s [(8, .one (.sc (.rows 3 (rowI 3 (upd (hz a) (slotI s 9).toNat (slotI s 10))))))] [9, 10, 12, 14] [(idOf s 8, .gone)] [12, 14] } | _, _ => none⟩) (fun _ _ => (cons_cons tame_ok (cons_cons nrows_ok (cons_cons rev_ok (cons_cons copyX_ok (cons_cons eval_ok (cons_cons assign_ok (cons_cons reckons_ok (cons_cons nhas_ok (cons_cons empty_ok (cons_cons iconst_ok (cons_cons nrow_ok (cons_cons nwithin_ok cons_nil))))))))))))) (by kernel_rfl) ?_
  intro ds fr
  unfold ealoneS
  split
  · rename_i k n v d a x
    refine kmp (q := (∀ (j : Nat), j < (3 : Nat) → (-2147483648 : Int) ≤ a j ∧ a j ≤ (2147483647 : Int)) →
 ((0 : Int) ≤ (6 : Int) ∧ (6 : Int) ≤ (100 : Int)) ∧
 ((1 : Int) ≤ (3 : Int) ∧ (3 : Int) ≤ (6 : Int)) ∧
 (∀ (j : Nat), j < (3 : Nat) → ((-2147483648 : Int) ≤ a j ∧ a j ≤ (2147483647 : Int)) ∧ (-2147483648 : Int) ≤ a j ∧ a j ≤ (2147483647 : Int)) ∧
 nat_lit 0 + nat_lit 3 ≤ (rowI (3 : Nat) fun (j : Nat) => a j).len ∧
 Tm (↑((rowI (3 : Nat) fun (j : Nat) => a j).sub (nat_lit 0) (nat_lit 0 + nat_lit 3)).len : Int)
 (ex (tamP (3 : Int) (Int.toNat (6 : Int)) (ex k n v d)).k (tamP (3 : Int) (Int.toNat (6 : Int)) (ex k n v d)).n
 (tamP (3 : Int) (Int.toNat (6 : Int)) (ex k n v d)).v (dE (tamP (3 : Int) (Int.toNat (6 : Int)) (ex k n v d)).kids)) ∧
 InV (↑((rowI (3 : Nat) fun (j : Nat) => a j).sub (nat_lit 0) (nat_lit 0 + nat_lit 3)).len : Int)
 (vD ((rowI (3 : Nat) fun (j : Nat) => a j).sub (nat_lit 0) (nat_lit 0 + nat_lit 3))) ∧
 Small
 (ex (tamP (3 : Int) (Int.toNat (6 : Int)) (ex k n v d)).k (tamP (3 : Int) (Int.toNat (6 : Int)) (ex k n v d)).n
 (tamP (3 : Int) (Int.toNat (6 : Int)) (ex k n v d)).v (dE (tamP (3 : Int) (Int.toNat (6 : Int)) (ex k n v d)).kids)) ∧
 NumOK (3 : Int) (jnZ (3 : Int) (rowZ (3 : Int) a (3 : Nat)) (rowZ (3 : Int) a (3 : Nat))).fst
 (itD (3 : Nat) (3 : Int) (jnZ (3 : Int) (rowZ (3 : Int) a (3 : Nat)) (rowZ (3 : Int) a (3 : Nat))))
 (jnZ (3 : Int) (rowZ (3 : Int) a (3 : Nat)) (rowZ (3 : Int) a (3 : Nat))).fst
 (jnZ (3 : Int) (rowZ (3 : Int) a (3 : Nat)) (rowZ (3 : Int) a (3 : Nat))).snd ∧
 Small
 (ex (tamP (3 : Int) (Int.toNat (6 : Int)) (ex k n v d)).k (tamP (3 : Int) (Int.toNat (6 : Int)) (ex k n v d)).n
 (tamP (3 : Int) (Int.toNat (6 : Int)) (ex k n v d)).v (dE (tamP (3 : Int) (Int.toNat (6 : Int)) (ex k n v d)).kids)) ∧
 NumOK (3 : Int) (jnZ (3 : Int) (rowZ (3 : Int) a (3 : Nat)) (rowZ (3 : Int) a (3 : Nat))).fst
 (itD (3 : Nat) (3 : Int) (jnZ (3 : Int) (rowZ (3 : Int) a (3 : Nat)) (rowZ (3 : Int) a (3 : Nat))))
 (jnZ (3 : Int) (rowZ (3 : Int) a (3 : Nat)) (rowZ (3 : Int) a (3 : Nat))).fst
 (jnZ (3 : Int) (rowZ (3 : Int) a (3 : Nat)) (rowZ (3 : Int) a (3 : Nat))).snd ∧
 ((!true ||
 !(evaP (Int.toNat (3 : Int)) (3 : Int)
 ((jnZ (3 : Int) (rowZ (3 : Int) a (3 : Nat)) (rowZ (3 : Int) a (3 : Nat))).fst,
 (jnZ (3 : Int) (rowZ (3 : Int) a (3 : Nat)) (rowZ (3 : Int) a (3 : Nat))).snd)
 (ex
 (ex (tamP (3 : Int) (Int.toNat (6 : Int)) (ex k n v d)).k (tamP (3 : Int) (Int.toNat (6 : Int)) (ex k n v d)).n
 (tamP (3 : Int) (Int.toNat (6 : Int)) (ex k n v d)).v
 (dE (tamP (3 : Int) (Int.toNat (6 : Int)) (ex k n v d)).kids)).k
 (ex (tamP (3 : Int) (Int.toNat (6 : Int)) (ex k n v d)).k (tamP (3 : Int) (Int.toNat (6 : Int)) (ex k n v d)).n
 (tamP (3 : Int) (Int.toNat (6 : Int)) (ex k n v d)).v
 (dE (tamP (3 : Int) (Int.toNat (6 : Int)) (ex k n v d)).kids)).n
 (ex (tamP (3 : Int) (Int.toNat (6 : Int)) (ex k n v d)).k (tamP (3 : Int) (Int.toNat (6 : Int)) (ex k n v d)).n
 (tamP (3 : Int) (Int.toNat (6 : Int)) (ex k n v d)).v
 (dE (tamP (3 : Int) (Int.toNat (6 : Int)) (ex k n v d)).kids)).v
 (dE
 (ex (tamP (3 : Int) (Int.toNat (6 : Int)) (ex k n v d)).k (tamP (3 : Int) (Int.toNat (6 : Int)) (ex k n v d)).n
 (tamP (3 : Int) (Int.toNat (6 : Int)) (ex k n v d)).v
 (dE (tamP (3 : Int) (Int.toNat (6 : Int)) (ex k n v d)).kids)).kids))).snd.fst ==
 ((evT (vD ((rowI (3 : Nat) fun (j : Nat) => a j).sub (nat_lit 0) (nat_lit 0 + nat_lit 3)))
 (ex (tamP (3 : Int) (Int.toNat (6 : Int)) (ex k n v d)).k (tamP (3 : Int) (Int.toNat (6 : Int)) (ex k n v d)).n
 (tamP (3 : Int) (Int.toNat (6 : Int)) (ex k n v d)).v
 (dE (tamP (3 : Int) (Int.toNat (6 : Int)) (ex k n v d)).kids))).snd ==
 (2 : Int)) ||
 !(evaP (Int.toNat (3 : Int)) (3 : Int)
 ((jnZ (3 : Int) (rowZ (3 : Int) a (3 : Nat)) (rowZ (3 : Int) a (3 : Nat))).fst,
 (jnZ (3 : Int) (rowZ (3 : Int) a (3 : Nat)) (rowZ (3 : Int) a (3 : Nat))).snd)
 (ex
 (ex (tamP (3 : Int) (Int.toNat (6 : Int)) (ex k n v d)).k (tamP (3 : Int) (Int.toNat (6 : Int)) (ex k n v d)).n
 (tamP (3 : Int) (Int.toNat (6 : Int)) (ex k n v d)).v
 (dE (tamP (3 : Int) (Int.toNat (6 : Int)) (ex k n v d)).kids)).k
 (ex (tamP (3 : Int) (Int.toNat (6 : Int)) (ex k n v d)).k (tamP (3 : Int) (Int.toNat (6 : Int)) (ex k n v d)).n
 (tamP (3 : Int) (Int.toNat (6 : Int)) (ex k n v d)).v
 (dE (tamP (3 : Int) (Int.toNat (6 : Int)) (ex k n v d)).kids)).n
 (ex (tamP (3 : Int) (Int.toNat (6 : Int)) (ex k n v d)).k (tamP (3 : Int) (Int.toNat (6 : Int)) (ex k n v d)).n
 (tamP (3 : Int) (Int.toNat (6 : Int)) (ex k n v d)).v
 (dE (tamP (3 : Int) (Int.toNat (6 : Int)) (ex k n v d)).kids)).v
 (dE
 (ex (tamP (3 : Int) (Int.toNat (6 : Int)) (ex k n v d)).k (tamP (3 : Int) (Int.toNat (6 : Int)) (ex k n v d)).n
 (tamP (3 : Int) (Int.toNat (6 : Int)) (ex k n v d)).v
 (dE (tamP (3 : Int) (Int.toNat (6 : Int)) (ex k n v d)).kids)).kids))).snd.snd ==
 ((evT (vD ((rowI (3 : Nat) fun (j : Nat) => a j).sub (nat_lit 0) (nat_lit 0 + nat_lit 3)))
 (ex (tamP (3 : Int) (Int.toNat (6 : Int)) (ex k n v d)).k (tamP (3 : Int) (Int.toNat (6 : Int)) (ex k n v d)).n
 (tamP (3 : Int) (Int.toNat (6 : Int)) (ex k n v d)).v
 (dE (tamP (3 : Int) (Int.toNat (6 : Int)) (ex k n v d)).kids))).snd ==
 (3 : Int))) =
 true →
 false = true) ∧
 ((!true ||
 !(evaP (Int.toNat (3 : Int)) (3 : Int)
 ((jnZ (3 : Int) (rowZ (3 : Int) a (3 : Nat)) (rowZ (3 : Int) a (3 : Nat))).fst,
 (jnZ (3 : Int) (rowZ (3 : Int) a (3 : Nat)) (rowZ (3 : Int) a (3 : Nat))).snd)
 (ex
 (ex (tamP (3 : Int) (Int.toNat (6 : Int)) (ex k n v d)).k (tamP (3 : Int) (Int.toNat (6 : Int)) (ex k n v d)).n
 (tamP (3 : Int) (Int.toNat (6 : Int)) (ex k n v d)).v
 (dE (tamP (3 : Int) (Int.toNat (6 : Int)) (ex k n v d)).kids)).k
 (ex (tamP (3 : Int) (Int.toNat (6 : Int)) (ex k n v d)).k (tamP (3 : Int) (Int.toNat (6 : Int)) (ex k n v d)).n
 (tamP (3 : Int) (Int.toNat (6 : Int)) (ex k n v d)).v
 (dE (tamP (3 : Int) (Int.toNat (6 : Int)) (ex k n v d)).kids)).n
 (ex (tamP (3 : Int) (Int.toNat (6 : Int)) (ex k n v d)).k (tamP (3 : Int) (Int.toNat (6 : Int)) (ex k n v d)).n
 (tamP (3 : Int) (Int.toNat (6 : Int)) (ex k n v d)).v
 (dE (tamP (3 : Int) (Int.toNat (6 : Int)) (ex k n v d)).kids)).v
 (dE
 (ex (tamP (3 : Int) (Int.toNat (6 : Int)) (ex k n v d)).k (tamP (3 : Int) (Int.toNat (6 : Int)) (ex k n v d)).n
 (tamP (3 : Int) (Int.toNat (6 : Int)) (ex k n v d)).v
 (dE (tamP (3 : Int) (Int.toNat (6 : Int)) (ex k n v d)).kids)).kids))).snd.fst ==
 ((evT (vD ((rowI (3 : Nat) fun (j : Nat) => a j).sub (nat_lit 0) (nat_lit 0 + nat_lit 3)))
 (ex (tamP (3 : Int) (Int.toNat (6 : Int)) (ex k n v d)).k (tamP (3 : Int) (Int.toNat (6 : Int)) (ex k n v d)).n
 (tamP (3 : Int) (Int.toNat (6 : Int)) (ex k n v d)).v
 (dE (tamP (3 : Int) (Int.toNat (6 : Int)) (ex k n v d)).kids))).snd ==
 (2 : Int)) ||
 !(evaP (Int.toNat (3 : Int)) (3 : Int)
 ((jnZ (3 : Int) (rowZ (3 : Int) a (3 : Nat)) (rowZ (3 : Int) a (3 : Nat))).fst,
 (jnZ (3 : Int) (rowZ (3 : Int) a (3 : Nat)) (rowZ (3 : Int) a (3 : Nat))).snd)
 (ex
 (ex (tamP (3 : Int) (Int.toNat (6 : Int)) (ex k n v d)).k (tamP (3 : Int) (Int.toNat (6 : Int)) (ex k n v d)).n
 (tamP (3 : Int) (Int.toNat (6 : Int)) (ex k n v d)).v
 (dE (tamP (3 : Int) (Int.toNat (6 : Int)) (ex k n v d)).kids)).k
 (ex (tamP (3 : Int) (Int.toNat (6 : Int)) (ex k n v d)).k (tamP (3 : Int) (Int.toNat (6 : Int)) (ex k n v d)).n
 (tamP (3 : Int) (Int.toNat (6 : Int)) (ex k n v d)).v
 (dE (tamP (3 : Int) (Int.toNat (6 : Int)) (ex k n v d)).kids)).n
 (ex (tamP (3 : Int) (Int.toNat (6 : Int)) (ex k n v d)).k (tamP (3 : Int) (Int.toNat (6 : Int)) (ex k n v d)).n
 (tamP (3 : Int) (Int.toNat (6 : Int)) (ex k n v d)).v
 (dE (tamP (3 : Int) (Int.toNat (6 : Int)) (ex k n v d)).kids)).v
 (dE
 (ex (tamP (3 : Int) (Int.toNat (6 : Int)) (ex k n v d)).k (tamP (3 : Int) (Int.toNat (6 : Int)) (ex k n v d)).n
 (tamP (3 : Int) (Int.toNat (6 : Int)) (ex k n v d)).v
 (dE (tamP (3 : Int) (Int.toNat (6 : Int)) (ex k n v d)).kids)).kids))).snd.snd ==
 ((evT (vD ((rowI (3 : Nat) fun (j : Nat) => a j).sub (nat_lit 0) (nat_lit 0 + nat_lit 3)))
 (ex (tamP (3 : Int) (Int.toNat (6 : Int)) (ex k n v d)).k (tamP (3 : Int) (Int.toNat (6 : Int)) (ex k n v d)).n
 (tamP (3 : Int) (Int.toNat (6 : Int)) (ex k n v d)).v
 (dE (tamP (3 : Int) (Int.toNat (6 : Int)) (ex k n v d)).kids))).snd ==
 (3 : Int))) =
 false →
 (((evT (vD ((rowI (3 : Nat) fun (j : Nat) => a j).sub (nat_lit 0) (nat_lit 0 + nat_lit 3)))
 (ex (tamP (3 : Int) (Int.toNat (6 : Int)) (ex k n v d)).k (tamP (3 : Int) (Int.toNat (6 : Int)) (ex k n v d)).n
 (tamP (3 : Int) (Int.toNat (6 : Int)) (ex k n v d)).v
 (dE (tamP (3 : Int) (Int.toNat (6 : Int)) (ex k n v d)).kids))).snd !=
 (0 : Int)) =
 true →
 (decide
 ((evaP (Int.toNat (3 : Int)) (3 : Int)
 ((jnZ (3 : Int) (rowZ (3 : Int) a (3 : Nat)) (rowZ (3 : Int) a (3 : Nat))).fst,
 (jnZ (3 : Int) (rowZ (3 : Int) a (3 : Nat)) (rowZ (3 : Int) a (3 : Nat))).snd)
 (ex
 (ex (tamP (3 : Int) (Int.toNat (6 : Int)) (ex k n v d)).k (tamP (3 : Int) (Int.toNat (6 : Int)) (ex k n v d)).n
 (tamP (3 : Int) (Int.toNat (6 : Int)) (ex k n v d)).v
 (dE (tamP (3 : Int) (Int.toNat (6 : Int)) (ex k n v d)).kids)).k
 (ex (tamP (3 : Int) (Int.toNat (6 : Int)) (ex k n v d)).k (tamP (3 : Int) (Int.toNat (6 : Int)) (ex k n v d)).n
 (tamP (3 : Int) (Int.toNat (6 : Int)) (ex k n v d)).v
 (dE (tamP (3 : Int) (Int.toNat (6 : Int)) (ex k n v d)).kids)).n
 (ex (tamP (3 : Int) (Int.toNat (6 : Int)) (ex k n v d)).k (tamP (3 : Int) (Int.toNat (6 : Int)) (ex k n v d)).n
 (tamP (3 : Int) (Int.toNat (6 : Int)) (ex k n v d)).v
 (dE (tamP (3 : Int) (Int.toNat (6 : Int)) (ex k n v d)).kids)).v
 (dE
 (ex (tamP (3 : Int) (Int.toNat (6 : Int)) (ex k n v d)).k (tamP (3 : Int) (Int.toNat (6 : Int)) (ex k n v d)).n
 (tamP (3 : Int) (Int.toNat (6 : Int)) (ex k n v d)).v
 (dE (tamP (3 : Int) (Int.toNat (6 : Int)) (ex k n v d)).kids)).kids))).fst.snd <
 (evaP (Int.toNat (3 : Int)) (3 : Int)
 ((jnZ (3 : Int) (rowZ (3 : Int) a (3 : Nat)) (rowZ (3 : Int) a (3 : Nat))).fst,
 (jnZ (3 : Int) (rowZ (3 : Int) a (3 : Nat)) (rowZ (3 : Int) a (3 : Nat))).snd)
 (ex
 (ex (tamP (3 : Int) (Int.toNat (6 : Int)) (ex k n v d)).k (tamP (3 : Int) (Int.toNat (6 : Int)) (ex k n v d)).n
 (tamP (3 : Int) (Int.toNat (6 : Int)) (ex k n v d)).v
 (dE (tamP (3 : Int) (Int.toNat (6 : Int)) (ex k n v d)).kids)).k
 (ex (tamP (3 : Int) (Int.toNat (6 : Int)) (ex k n v d)).k (tamP (3 : Int) (Int.toNat (6 : Int)) (ex k n v d)).n
 (tamP (3 : Int) (Int.toNat (6 : Int)) (ex k n v d)).v
 (dE (tamP (3 : Int) (Int.toNat (6 : Int)) (ex k n v d)).kids)).n
 (ex (tamP (3 : Int) (Int.toNat (6 : Int)) (ex k n v d)).k (tamP (3 : Int) (Int.toNat (6 : Int)) (ex k n v d)).n
 (tamP (3 : Int) (Int.toNat (6 : Int)) (ex k n v d)).v
 (dE (tamP (3 : Int) (Int.toNat (6 : Int)) (ex k n v d)).kids)).v
 (dE
 (ex (tamP (3 : Int) (Int.toNat (6 : Int)) (ex k n v d)).k (tamP (3 : Int) (Int.toNat (6 : Int)) (ex k n v d)).n
 (tamP (3 : Int) (Int.toNat (6 : Int)) (ex k n v d)).v
 (dE (tamP (3 : Int) (Int.toNat (6 : Int)) (ex k n v d)).kids)).kids))).fst.fst) &&
 (asgZ (3 : Int) (IntKind.i64.wrap ((IntKind.u64.wrap x).tmod (3 : Int)))
 (ex
 (ex (tamP (3 : Int) (Int.toNat (6 : Int)) (ex k n v d)).k (tamP (3 : Int) (Int.toNat (6 : Int)) (ex k n v d)).n
 (tamP (3 : Int) (Int.toNat (6 : Int)) (ex k n v d)).v
 (dE (tamP (3 : Int) (Int.toNat (6 : Int)) (ex k n v d)).kids)).k
 (ex (tamP (3 : Int) (Int.toNat (6 : Int)) (ex k n v d)).k (tamP (3 : Int) (Int.toNat (6 : Int)) (ex k n v d)).n
 (tamP (3 : Int) (Int.toNat (6 : Int)) (ex k n v d)).v
 (dE (tamP (3 : Int) (Int.toNat (6 : Int)) (ex k n v d)).kids)).n
 (ex (tamP (3 : Int) (Int.toNat (6 : Int)) (ex k n v d)).k (tamP (3 : Int) (Int.toNat (6 : Int)) (ex k n v d)).n
 (tamP (3 : Int) (Int.toNat (6 : Int)) (ex k n v d)).v
 (dE (tamP (3 : Int) (Int.toNat (6 : Int)) (ex k n v d)).kids)).v
 (dE
 (ex (tamP (3 : Int) (Int.toNat (6 : Int)) (ex k n v d)).k (tamP (3 : Int) (Int.toNat (6 : Int)) (ex k n v d)).n
 (tamP (3 : Int) (Int.toNat (6 : Int)) (ex k n v d)).v
 (dE (tamP (3 : Int) (Int.toNat (6 : Int)) (ex k n v d)).kids)).kids))
 ((jnZ (3 : Int) (rowZ (3 : Int) a (3 : Nat)) (rowZ (3 : Int) a (3 : Nat))).fst,
 (jnZ (3 : Int) (rowZ (3 : Int) a (3 : Nat)) (rowZ (3 : Int) a (3 : Nat))).snd)).fst) =
 true) ∧
 (((evT (vD ((rowI (3 : Nat) fun (j : Nat) => a j).sub (nat_lit 0) (nat_lit 0 + nat_lit 3)))
 (ex (tamP (3 : Int) (Int.toNat (6 : Int)) (ex k n v d)).k (tamP (3 : Int) (Int.toNat (6 : Int)) (ex k n v d)).n
 (tamP (3 : Int) (Int.toNat (6 : Int)) (ex k n v d)).v
 (dE (tamP (3 : Int) (Int.toNat (6 : Int)) (ex k n v d)).kids))).snd !=
 (0 : Int)) =
 false →
 (((0 : Int) ≤ IntKind.i64.wrap ((IntKind.u64.wrap x).tmod (3 : Int)) ∧
 IntKind.i64.wrap ((IntKind.u64.wrap x).tmod (3 : Int)) < (↑(nat_lit 3) : Int)) ∧
 (IntKind.i64.wrap ((IntKind.u64.wrap x).tmod (3 : Int))).toNat < (rowI (3 : Nat) fun (j : Nat) => a j).len ∧
 ∃ (i : Bool),
 True ∧
 nat_lit 0 + nat_lit 3 ≤
 ((rowI (3 : Nat) fun (j : Nat) => a j).setc [K.int IntKind.i64].length
 (IntKind.i64.wrap ((IntKind.u64.wrap x).tmod (3 : Int))).toNat (0 : Nat)
 [D.i
 (evT (vD ((rowI (3 : Nat) fun (j : Nat) => a j).sub (nat_lit 0) (nat_lit 0 + nat_lit 3)))
 (ex (tamP (3 : Int) (Int.toNat (6 : Int)) (ex k n v d)).k
 (tamP (3 : Int) (Int.toNat (6 : Int)) (ex k n v d)).n
 (tamP (3 : Int) (Int.toNat (6 : Int)) (ex k n v d)).v
 (dE (tamP (3 : Int) (Int.toNat (6 : Int)) (ex k n v d)).kids))).fst]).len ∧
 nat_lit 0 + nat_lit 3 ≤
 ((rowI (3 : Nat) fun (j : Nat) => a j).setc [K.int IntKind.i64].length
 (IntKind.i64.wrap ((IntKind.u64.wrap x).tmod (3 : Int))).toNat (0 : Nat)
 [D.i
 (evT (vD ((rowI (3 : Nat) fun (j : Nat) => a j).sub (nat_lit 0) (nat_lit 0 + nat_lit 3)))
 (ex (tamP (3 : Int) (Int.toNat (6 : Int)) (ex k n v d)).k
 (tamP (3 : Int) (Int.toNat (6 : Int)) (ex k n v d)).n
 (tamP (3 : Int) (Int.toNat (6 : Int)) (ex k n v d)).v
 (dE (tamP (3 : Int) (Int.toNat (6 : Int)) (ex k n v d)).kids))).fst]).len ∧
 nat_lit 0 + nat_lit 3 ≤
 ((rowI (3 : Nat) fun (j : Nat) => a j).setc [K.int IntKind.i64].length
 (IntKind.i64.wrap ((IntKind.u64.wrap x).tmod (3 : Int))).toNat (0 : Nat)
 [D.i
 (evT (vD ((rowI (3 : Nat) fun (j : Nat) => a j).sub (nat_lit 0) (nat_lit 0 + nat_lit 3)))
 (ex (tamP (3 : Int) (Int.toNat (6 : Int)) (ex k n v d)).k
 (tamP (3 : Int) (Int.toNat (6 : Int)) (ex k n v d)).n
 (tamP (3 : Int) (Int.toNat (6 : Int)) (ex k n v d)).v
 (dE (tamP (3 : Int) (Int.toNat (6 : Int)) (ex k n v d)).kids))).fst]).len ∧
 nat_lit 0 + nat_lit 3 ≤
 ((rowI (3 : Nat) fun (j : Nat) => a j).setc [K.int IntKind.i64].length
 (IntKind.i64.wrap ((IntKind.u64.wrap x).tmod (3 : Int))).toNat (0 : Nat)
 [D.i
 (evT (vD ((rowI (3 : Nat) fun (j : Nat) => a j).sub (nat_lit 0) (nat_lit 0 + nat_lit 3)))
 (ex (tamP (3 : Int) (Int.toNat (6 : Int)) (ex k n v d)).k
 (tamP (3 : Int) (Int.toNat (6 : Int)) (ex k n v d)).n
 (tamP (3 : Int) (Int.toNat (6 : Int)) (ex k n v d)).v
 (dE (tamP (3 : Int) (Int.toNat (6 : Int)) (ex k n v d)).kids))).fst]).len ∧
 List.drop (nat_lit 0)
 (List.take (nat_lit 0 + nat_lit 3)
 ((List.map (fun (j : Nat) => [D.i (a j)]) (List.range (3 : Nat))).set
 (IntKind.i64.wrap ((IntKind.u64.wrap x).tmod (3 : Int))).toNat
 [D.i
 (evT (vD ((rowI (3 : Nat) fun (j : Nat) => a j).sub (nat_lit 0) (nat_lit 0 + nat_lit 3)))
 (ex (tamP (3 : Int) (Int.toNat (6 : Int)) (ex k n v d)).k
 (tamP (3 : Int) (Int.toNat (6 : Int)) (ex k n v d)).n
 (tamP (3 : Int) (Int.toNat (6 : Int)) (ex k n v d)).v
 (dE (tamP (3 : Int) (Int.toNat (6 : Int)) (ex k n v d)).kids))).fst])) =
 List.map
 (fun (j : Nat) =>
 [D.i
 (upd (hz a) (IntKind.i64.wrap ((IntKind.u64.wrap x).tmod (3 : Int))).toNat
 (evT (vD ((rowI (3 : Nat) fun (j : Nat) => a j).sub (nat_lit 0) (nat_lit 0 + nat_lit 3)))
 (ex (tamP (3 : Int) (Int.toNat (6 : Int)) (ex k n v d)).k
 (tamP (3 : Int) (Int.toNat (6 : Int)) (ex k n v d)).n
 (tamP (3 : Int) (Int.toNat (6 : Int)) (ex k n v d)).v
 (dE (tamP (3 : Int) (Int.toNat (6 : Int)) (ex k n v d)).kids))).fst
 j)])
 (List.range (3 : Nat)) ∧
 IntKind.i64.wrap ((IntKind.u64.wrap x).tmod (3 : Int)) =
 IntKind.i64.wrap ((IntKind.u64.wrap x).tmod (3 : Int)) ∧
 (evT (vD ((rowI (3 : Nat) fun (j : Nat) => a j).sub (nat_lit 0) (nat_lit 0 + nat_lit 3)))
 (ex (tamP (3 : Int) (Int.toNat (6 : Int)) (ex k n v d)).k
 (tamP (3 : Int) (Int.toNat (6 : Int)) (ex k n v d)).n
 (tamP (3 : Int) (Int.toNat (6 : Int)) (ex k n v d)).v
 (dE (tamP (3 : Int) (Int.toNat (6 : Int)) (ex k n v d)).kids))).fst =
 (evT (vD ((rowI (3 : Nat) fun (j : Nat) => a j).sub (nat_lit 0) (nat_lit 0 + nat_lit 3)))
 (ex (tamP (3 : Int) (Int.toNat (6 : Int)) (ex k n v d)).k
 (tamP (3 : Int) (Int.toNat (6 : Int)) (ex k n v d)).n
 (tamP (3 : Int) (Int.toNat (6 : Int)) (ex k n v d)).v
 (dE (tamP (3 : Int) (Int.toNat (6 : Int)) (ex k n v d)).kids))).fst ∧
 (evaP (Int.toNat (3 : Int)) (3 : Int)
 ((jnZ (3 : Int) (rowZ (3 : Int) a (3 : Nat)) (rowZ (3 : Int) a (3 : Nat))).fst,
 (jnZ (3 : Int) (rowZ (3 : Int) a (3 : Nat)) (rowZ (3 : Int) a (3 : Nat))).snd)
 (ex
 (ex (tamP (3 : Int) (Int.toNat (6 : Int)) (ex k n v d)).k
 (tamP (3 : Int) (Int.toNat (6 : Int)) (ex k n v d)).n
 (tamP (3 : Int) (Int.toNat (6 : Int)) (ex k n v d)).v
 (dE (tamP (3 : Int) (Int.toNat (6 : Int)) (ex k n v d)).kids)).k
 (ex (tamP (3 : Int) (Int.toNat (6 : Int)) (ex k n v d)).k
 (tamP (3 : Int) (Int.toNat (6 : Int)) (ex k n v d)).n
 (tamP (3 : Int) (Int.toNat (6 : Int)) (ex k n v d)).v
 (dE (tamP (3 : Int) (Int.toNat (6 : Int)) (ex k n v d)).kids)).n
 (ex (tamP (3 : Int) (Int.toNat (6 : Int)) (ex k n v d)).k
 (tamP (3 : Int) (Int.toNat (6 : Int)) (ex k n v d)).n
 (tamP (3 : Int) (Int.toNat (6 : Int)) (ex k n v d)).v
 (dE (tamP (3 : Int) (Int.toNat (6 : Int)) (ex k n v d)).kids)).v
 (dE
 (ex (tamP (3 : Int) (Int.toNat (6 : Int)) (ex k n v d)).k
 (tamP (3 : Int) (Int.toNat (6 : Int)) (ex k n v d)).n
 (tamP (3 : Int) (Int.toNat (6 : Int)) (ex k n v d)).v
 (dE (tamP (3 : Int) (Int.toNat (6 : Int)) (ex k n v d)).kids)).kids))).fst.fst =
 (evaP (Int.toNat (3 : Int)) (3 : Int)
 ((jnZ (3 : Int) (rowZ (3 : Int) a (3 : Nat)) (rowZ (3 : Int) a (3 : Nat))).fst,
 (jnZ (3 : Int) (rowZ (3 : Int) a (3 : Nat)) (rowZ (3 : Int) a (3 : Nat))).snd)
 (ex
 (ex (tamP (3 : Int) (Int.toNat (6 : Int)) (ex k n v d)).k
 (tamP (3 : Int) (Int.toNat (6 : Int)) (ex k n v d)).n
 (tamP (3 : Int) (Int.toNat (6 : Int)) (ex k n v d)).v
 (dE (tamP (3 : Int) (Int.toNat (6 : Int)) (ex k n v d)).kids)).k
 (ex (tamP (3 : Int) (Int.toNat (6 : Int)) (ex k n v d)).k
 (tamP (3 : Int) (Int.toNat (6 : Int)) (ex k n v d)).n
 (tamP (3 : Int) (Int.toNat (6 : Int)) (ex k n v d)).v
 (dE (tamP (3 : Int) (Int.toNat (6 : Int)) (ex k n v d)).kids)).n
 (ex (tamP (3 : Int) (Int.toNat (6 : Int)) (ex k n v d)).k
 (tamP (3 : Int) (Int.toNat (6 : Int)) (ex k n v d)).n
 (tamP (3 : Int) (Int.toNat (6 : Int)) (ex k n v d)).v
 (dE (tamP (3 : Int) (Int.toNat (6 : Int)) (ex k n v d)).kids)).v
 (dE
 (ex (tamP (3 : Int) (Int.toNat (6 : Int)) (ex k n v d)).k
 (tamP (3 : Int) (Int.toNat (6 : Int)) (ex k n v d)).n
 (tamP (3 : Int) (Int.toNat (6 : Int)) (ex k n v d)).v
 (dE (tamP (3 : Int) (Int.toNat (6 : Int)) (ex k n v d)).kids)).kids))).fst.fst ∧
 (evaP (Int.toNat (3 : Int)) (3 : Int)
 ((jnZ (3 : Int) (rowZ (3 : Int) a (3 : Nat)) (rowZ (3 : Int) a (3 : Nat))).fst,
 (jnZ (3 : Int) (rowZ (3 : Int) a (3 : Nat)) (rowZ (3 : Int) a (3 : Nat))).snd)
 (ex
 (ex (tamP (3 : Int) (Int.toNat (6 : Int)) (ex k n v d)).k
 (tamP (3 : Int) (Int.toNat (6 : Int)) (ex k n v d)).n
 (tamP (3 : Int) (Int.toNat (6 : Int)) (ex k n v d)).v
 (dE (tamP (3 : Int) (Int.toNat (6 : Int)) (ex k n v d)).kids)).k
 (ex (tamP (3 : Int) (Int.toNat (6 : Int)) (ex k n v d)).k
 (tamP (3 : Int) (Int.toNat (6 : Int)) (ex k n v d)).n
 (tamP (3 : Int) (Int.toNat (6 : Int)) (ex k n v d)).v
 (dE (tamP (3 : Int) (Int.toNat (6 : Int)) (ex k n v d)).kids)).n
 (ex (tamP (3 : Int) (Int.toNat (6 : Int)) (ex k n v d)).k
 (tamP (3 : Int) (Int.toNat (6 : Int)) (ex k n v d)).n
 (tamP (3 : Int) (Int.toNat (6 : Int)) (ex k n v d)).v
 (dE (tamP (3 : Int) (Int.toNat (6 : Int)) (ex k n v d)).kids)).v
 (dE
 (ex (tamP (3 : Int) (Int.toNat (6 : Int)) (ex k n v d)).k
 (tamP (3 : Int) (Int.toNat (6 : Int)) (ex k n v d)).n
 (tamP (3 : Int) (Int.toNat (6 : Int)) (ex k n v d)).v
 (dE (tamP (3 : Int) (Int.toNat (6 : Int)) (ex k n v d)).kids)).kids))).fst.snd =
 (evaP (Int.toNat (3 : Int)) (3 : Int)
 ((jnZ (3 : Int) (rowZ (3 : Int) a (3 : Nat)) (rowZ (3 : Int) a (3 : Nat))).fst,
 (jnZ (3 : Int) (rowZ (3 : Int) a (3 : Nat)) (rowZ (3 : Int) a (3 : Nat))).snd)
 (ex
 (ex (tamP (3 : Int) (Int.toNat (6 : Int)) (ex k n v d)).k
 (tamP (3 : Int) (Int.toNat (6 : Int)) (ex k n v d)).n
 (tamP (3 : Int) (Int.toNat (6 : Int)) (ex k n v d)).v
 (dE (tamP (3 : Int) (Int.toNat (6 : Int)) (ex k n v d)).kids)).k
 (ex (tamP (3 : Int) (Int.toNat (6 : Int)) (ex k n v d)).k
 (tamP (3 : Int) (Int.toNat (6 : Int)) (ex k n v d)).n
 (tamP (3 : Int) (Int.toNat (6 : Int)) (ex k n v d)).v
 (dE (tamP (3 : Int) (Int.toNat (6 : Int)) (ex k n v d)).kids)).n
 (ex (tamP (3 : Int) (Int.toNat (6 : Int)) (ex k n v d)).k
 (tamP (3 : Int) (Int.toNat (6 : Int)) (ex k n v d)).n
 (tamP (3 : Int) (Int.toNat (6 : Int)) (ex k n v d)).v
 (dE (tamP (3 : Int) (Int.toNat (6 : Int)) (ex k n v d)).kids)).v
 (dE
 (ex (tamP (3 : Int) (Int.toNat (6 : Int)) (ex k n v d)).k
 (tamP (3 : Int) (Int.toNat (6 : Int)) (ex k n v d)).n
 (tamP (3 : Int) (Int.toNat (6 : Int)) (ex k n v d)).v
 (dE (tamP (3 : Int) (Int.toNat (6 : Int)) (ex k n v d)).kids)).kids))).fst.snd ∧
 (asgZ (3 : Int) (IntKind.i64.wrap ((IntKind.u64.wrap x).tmod (3 : Int)))
 (ex
 (ex (tamP (3 : Int) (Int.toNat (6 : Int)) (ex k n v d)).k
 (tamP (3 : Int) (Int.toNat (6 : Int)) (ex k n v d)).n
 (tamP (3 : Int) (Int.toNat (6 : Int)) (ex k n v d)).v
 (dE (tamP (3 : Int) (Int.toNat (6 : Int)) (ex k n v d)).kids)).k
 (ex (tamP (3 : Int) (Int.toNat (6 : Int)) (ex k n v d)).k
 (tamP (3 : Int) (Int.toNat (6 : Int)) (ex k n v d)).n
 (tamP (3 : Int) (Int.toNat (6 : Int)) (ex k n v d)).v
 (dE (tamP (3 : Int) (Int.toNat (6 : Int)) (ex k n v d)).kids)).n
 (ex (tamP (3 : Int) (Int.toNat (6 : Int)) (ex k n v d)).k
 (tamP (3 : Int) (Int.toNat (6 : Int)) (ex k n v d)).n
 (tamP (3 : Int) (Int.toNat (6 : Int)) (ex k n v d)).v
 (dE (tamP (3 : Int) (Int.toNat (6 : Int)) (ex k n v d)).kids)).v
 (dE
 (ex (tamP (3 : Int) (Int.toNat (6 : Int)) (ex k n v d)).k
 (tamP (3 : Int) (Int.toNat (6 : Int)) (ex k n v d)).n
 (tamP (3 : Int) (Int.toNat (6 : Int)) (ex k n v d)).v
 (dE (tamP (3 : Int) (Int.toNat (6 : Int)) (ex k n v d)).kids)).kids))
 ((jnZ (3 : Int) (rowZ (3 : Int) a (3 : Nat)) (rowZ (3 : Int) a (3 : Nat))).fst,
 (jnZ (3 : Int) (rowZ (3 : Int) a (3 : Nat)) (rowZ (3 : Int) a (3 : Nat))).snd)).fst =
 (asgZ (3 : Int) (IntKind.i64.wrap ((IntKind.u64.wrap x).tmod (3 : Int)))
 (ex
 (ex (tamP (3 : Int) (Int.toNat (6 : Int)) (ex k n v d)).k
 (tamP (3 : Int) (Int.toNat (6 : Int)) (ex k n v d)).n
 (tamP (3 : Int) (Int.toNat (6 : Int)) (ex k n v d)).v
 (dE (tamP (3 : Int) (Int.toNat (6 : Int)) (ex k n v d)).kids)).k
 (ex (tamP (3 : Int) (Int.toNat (6 : Int)) (ex k n v d)).k
 (tamP (3 : Int) (Int.toNat (6 : Int)) (ex k n v d)).n
 (tamP (3 : Int) (Int.toNat (6 : Int)) (ex k n v d)).v
 (dE (tamP (3 : Int) (Int.toNat (6 : Int)) (ex k n v d)).kids)).n
 (ex (tamP (3 : Int) (Int.toNat (6 : Int)) (ex k n v d)).k
 (tamP (3 : Int) (Int.toNat (6 : Int)) (ex k n v d)).n
 (tamP (3 : Int) (Int.toNat (6 : Int)) (ex k n v d)).v
 (dE (tamP (3 : Int) (Int.toNat (6 : Int)) (ex k n v d)).kids)).v
 (dE
 (ex (tamP (3 : Int) (Int.toNat (6 : Int)) (ex k n v d)).k
 (tamP (3 : Int) (Int.toNat (6 : Int)) (ex k n v d)).n
 (tamP (3 : Int) (Int.toNat (6 : Int)) (ex k n v d)).v
 (dE (tamP (3 : Int) (Int.toNat (6 : Int)) (ex k n v d)).kids)).kids))
 ((jnZ (3 : Int) (rowZ (3 : Int) a (3 : Nat)) (rowZ (3 : Int) a (3 : Nat))).fst,
 (jnZ (3 : Int) (rowZ (3 : Int) a (3 : Nat)) (rowZ (3 : Int) a (3 : Nat))).snd)).fst ∧
 List.map
 (fun (j : Nat) =>
 [D.i
 (itvLo (3 : Int)
 (asgZ (3 : Int) (IntKind.i64.wrap ((IntKind.u64.wrap x).tmod (3 : Int)))
 (ex
 (ex (tamP (3 : Int) (Int.toNat (6 : Int)) (ex k n v d)).k
 (tamP (3 : Int) (Int.toNat (6 : Int)) (ex k n v d)).n
 (tamP (3 : Int) (Int.toNat (6 : Int)) (ex k n v d)).v
 (dE (tamP (3 : Int) (Int.toNat (6 : Int)) (ex k n v d)).kids)).k
 (ex (tamP (3 : Int) (Int.toNat (6 : Int)) (ex k n v d)).k
 (tamP (3 : Int) (Int.toNat (6 : Int)) (ex k n v d)).n
 (tamP (3 : Int) (Int.toNat (6 : Int)) (ex k n v d)).v
 (dE (tamP (3 : Int) (Int.toNat (6 : Int)) (ex k n v d)).kids)).n
 (ex (tamP (3 : Int) (Int.toNat (6 : Int)) (ex k n v d)).k
 (tamP (3 : Int) (Int.toNat (6 : Int)) (ex k n v d)).n
 (tamP (3 : Int) (Int.toNat (6 : Int)) (ex k n v d)).v
 (dE (tamP (3 : Int) (Int.toNat (6 : Int)) (ex k n v d)).kids)).v
 (dE
 (ex (tamP (3 : Int) (Int.toNat (6 : Int)) (ex k n v d)).k
 (tamP (3 : Int) (Int.toNat (6 : Int)) (ex k n v d)).n
 (tamP (3 : Int) (Int.toNat (6 : Int)) (ex k n v d)).v
 (dE (tamP (3 : Int) (Int.toNat (6 : Int)) (ex k n v d)).kids)).kids))
 ((jnZ (3 : Int) (rowZ (3 : Int) a (3 : Nat)) (rowZ (3 : Int) a (3 : Nat))).fst,
 (jnZ (3 : Int) (rowZ (3 : Int) a (3 : Nat))
 (rowZ (3 : Int) a (3 : Nat))).snd)).fst
 (asgZ (3 : Int) (IntKind.i64.wrap ((IntKind.u64.wrap x).tmod (3 : Int)))
 (ex
 (ex (tamP (3 : Int) (Int.toNat (6 : Int)) (ex k n v d)).k
 (tamP (3 : Int) (Int.toNat (6 : Int)) (ex k n v d)).n
 (tamP (3 : Int) (Int.toNat (6 : Int)) (ex k n v d)).v
 (dE (tamP (3 : Int) (Int.toNat (6 : Int)) (ex k n v d)).kids)).k
 (ex (tamP (3 : Int) (Int.toNat (6 : Int)) (ex k n v d)).k
 (tamP (3 : Int) (Int.toNat (6 : Int)) (ex k n v d)).n
 (tamP (3 : Int) (Int.toNat (6 : Int)) (ex k n v d)).v
 (dE (tamP (3 : Int) (Int.toNat (6 : Int)) (ex k n v d)).kids)).n
 (ex (tamP (3 : Int) (Int.toNat (6 : Int)) (ex k n v d)).k
 (tamP (3 : Int) (Int.toNat (6 : Int)) (ex k n v d)).n
 (tamP (3 : Int) (Int.toNat (6 : Int)) (ex k n v d)).v
 (dE (tamP (3 : Int) (Int.toNat (6 : Int)) (ex k n v d)).kids)).v
 (dE
 (ex (tamP (3 : Int) (Int.toNat (6 : Int)) (ex k n v d)).k
 (tamP (3 : Int) (Int.toNat (6 : Int)) (ex k n v d)).n
 (tamP (3 : Int) (Int.toNat (6 : Int)) (ex k n v d)).v
 (dE (tamP (3 : Int) (Int.toNat (6 : Int)) (ex k n v d)).kids)).kids))
 ((jnZ (3 : Int) (rowZ (3 : Int) a (3 : Nat)) (rowZ (3 : Int) a (3 : Nat))).fst,
 (jnZ (3 : Int) (rowZ (3 : Int) a (3 : Nat))
 (rowZ (3 : Int) a (3 : Nat))).snd)).snd
 (↑j : Int)),
 D.i
 (itvHi (3 : Int)
 (asgZ (3 : Int) (IntKind.i64.wrap ((IntKind.u64.wrap x).tmod (3 : Int)))
 (ex
 (ex (tamP (3 : Int) (Int.toNat (6 : Int)) (ex k n v d)).k
 (tamP (3 : Int) (Int.toNat (6 : Int)) (ex k n v d)).n
 (tamP (3 : Int) (Int.toNat (6 : Int)) (ex k n v d)).v
 (dE (tamP (3 : Int) (Int.toNat (6 : Int)) (ex k n v d)).kids)).k
 (ex (tamP (3 : Int) (Int.toNat (6 : Int)) (ex k n v d)).k
 (tamP (3 : Int) (Int.toNat (6 : Int)) (ex k n v d)).n
 (tamP (3 : Int) (Int.toNat (6 : Int)) (ex k n v d)).v
 (dE (tamP (3 : Int) (Int.toNat (6 : Int)) (ex k n v d)).kids)).n
 (ex (tamP (3 : Int) (Int.toNat (6 : Int)) (ex k n v d)).k
 (tamP (3 : Int) (Int.toNat (6 : Int)) (ex k n v d)).n
 (tamP (3 : Int) (Int.toNat (6 : Int)) (ex k n v d)).v
 (dE (tamP (3 : Int) (Int.toNat (6 : Int)) (ex k n v d)).kids)).v
 (dE
 (ex (tamP (3 : Int) (Int.toNat (6 : Int)) (ex k n v d)).k
 (tamP (3 : Int) (Int.toNat (6 : Int)) (ex k n v d)).n
 (tamP (3 : Int) (Int.toNat (6 : Int)) (ex k n v d)).v
 (dE (tamP (3 : Int) (Int.toNat (6 : Int)) (ex k n v d)).kids)).kids))
 ((jnZ (3 : Int) (rowZ (3 : Int) a (3 : Nat)) (rowZ (3 : Int) a (3 : Nat))).fst,
 (jnZ (3 : Int) (rowZ (3 : Int) a (3 : Nat))
 (rowZ (3 : Int) a (3 : Nat))).snd)).fst
 (asgZ (3 : Int) (IntKind.i64.wrap ((IntKind.u64.wrap x).tmod (3 : Int)))
 (ex
 (ex (tamP (3 : Int) (Int.toNat (6 : Int)) (ex k n v d)).k
 (tamP (3 : Int) (Int.toNat (6 : Int)) (ex k n v d)).n
 (tamP (3 : Int) (Int.toNat (6 : Int)) (ex k n v d)).v
 (dE (tamP (3 : Int) (Int.toNat (6 : Int)) (ex k n v d)).kids)).k
 (ex (tamP (3 : Int) (Int.toNat (6 : Int)) (ex k n v d)).k
 (tamP (3 : Int) (Int.toNat (6 : Int)) (ex k n v d)).n
 (tamP (3 : Int) (Int.toNat (6 : Int)) (ex k n v d)).v
 (dE (tamP (3 : Int) (Int.toNat (6 : Int)) (ex k n v d)).kids)).n
 (ex (tamP (3 : Int) (Int.toNat (6 : Int)) (ex k n v d)).k
 (tamP (3 : Int) (Int.toNat (6 : Int)) (ex k n v d)).n
 (tamP (3 : Int) (Int.toNat (6 : Int)) (ex k n v d)).v
 (dE (tamP (3 : Int) (Int.toNat (6 : Int)) (ex k n v d)).kids)).v
 (dE
 (ex (tamP (3 : Int) (Int.toNat (6 : Int)) (ex k n v d)).k
 (tamP (3 : Int) (Int.toNat (6 : Int)) (ex k n v d)).n
 (tamP (3 : Int) (Int.toNat (6 : Int)) (ex k n v d)).v
 (dE (tamP (3 : Int) (Int.toNat (6 : Int)) (ex k n v d)).kids)).kids))
 ((jnZ (3 : Int) (rowZ (3 : Int) a (3 : Nat)) (rowZ (3 : Int) a (3 : Nat))).fst,
 (jnZ (3 : Int) (rowZ (3 : Int) a (3 : Nat))
 (rowZ (3 : Int) a (3 : Nat))).snd)).snd
 (↑j : Int))])
 (List.range (Int.toNat (3 : Int))) =
 List.map
 (fun (j : Nat) =>
 [D.i
 (itvLo (3 : Int)
 (asgZ (3 : Int) (IntKind.i64.wrap ((IntKind.u64.wrap x).tmod (3 : Int)))
 (ex
 (ex (tamP (3 : Int) (Int.toNat (6 : Int)) (ex k n v d)).k
 (tamP (3 : Int) (Int.toNat (6 : Int)) (ex k n v d)).n
 (tamP (3 : Int) (Int.toNat (6 : Int)) (ex k n v d)).v
 (dE (tamP (3 : Int) (Int.toNat (6 : Int)) (ex k n v d)).kids)).k
 (ex (tamP (3 : Int) (Int.toNat (6 : Int)) (ex k n v d)).k
 (tamP (3 : Int) (Int.toNat (6 : Int)) (ex k n v d)).n
 (tamP (3 : Int) (Int.toNat (6 : Int)) (ex k n v d)).v
 (dE (tamP (3 : Int) (Int.toNat (6 : Int)) (ex k n v d)).kids)).n
 (ex (tamP (3 : Int) (Int.toNat (6 : Int)) (ex k n v d)).k
 (tamP (3 : Int) (Int.toNat (6 : Int)) (ex k n v d)).n
 (tamP (3 : Int) (Int.toNat (6 : Int)) (ex k n v d)).v
 (dE (tamP (3 : Int) (Int.toNat (6 : Int)) (ex k n v d)).kids)).v
 (dE
 (ex (tamP (3 : Int) (Int.toNat (6 : Int)) (ex k n v d)).k
 (tamP (3 : Int) (Int.toNat (6 : Int)) (ex k n v d)).n
 (tamP (3 : Int) (Int.toNat (6 : Int)) (ex k n v d)).v
 (dE (tamP (3 : Int) (Int.toNat (6 : Int)) (ex k n v d)).kids)).kids))
 ((jnZ (3 : Int) (rowZ (3 : Int) a (3 : Nat)) (rowZ (3 : Int) a (3 : Nat))).fst,
 (jnZ (3 : Int) (rowZ (3 : Int) a (3 : Nat))
 (rowZ (3 : Int) a (3 : Nat))).snd)).fst
 (asgZ (3 : Int) (IntKind.i64.wrap ((IntKind.u64.wrap x).tmod (3 : Int)))
 (ex
 (ex (tamP (3 : Int) (Int.toNat (6 : Int)) (ex k n v d)).k
 (tamP (3 : Int) (Int.toNat (6 : Int)) (ex k n v d)).n
 (tamP (3 : Int) (Int.toNat (6 : Int)) (ex k n v d)).v
 (dE (tamP (3 : Int) (Int.toNat (6 : Int)) (ex k n v d)).kids)).k
 (ex (tamP (3 : Int) (Int.toNat (6 : Int)) (ex k n v d)).k
 (tamP (3 : Int) (Int.toNat (6 : Int)) (ex k n v d)).n
 (tamP (3 : Int) (Int.toNat (6 : Int)) (ex k n v d)).v
 (dE (tamP (3 : Int) (Int.toNat (6 : Int)) (ex k n v d)).kids)).n
 (ex (tamP (3 : Int) (Int.toNat (6 : Int)) (ex k n v d)).k
 (tamP (3 : Int) (Int.toNat (6 : Int)) (ex k n v d)).n
 (tamP (3 : Int) (Int.toNat (6 : Int)) (ex k n v d)).v
 (dE (tamP (3 : Int) (Int.toNat (6 : Int)) (ex k n v d)).kids)).v
 (dE
 (ex (tamP (3 : Int) (Int.toNat (6 : Int)) (ex k n v d)).k
 (tamP (3 : Int) (Int.toNat (6 : Int)) (ex k n v d)).n
 (tamP (3 : Int) (Int.toNat (6 : Int)) (ex k n v d)).v
 (dE (tamP (3 : Int) (Int.toNat (6 : Int)) (ex k n v d)).kids)).kids))
 ((jnZ (3 : Int) (rowZ (3 : Int) a (3 : Nat)) (rowZ (3 : Int) a (3 : Nat))).fst,
 (jnZ (3 : Int) (rowZ (3 : Int) a (3 : Nat))
 (rowZ (3 : Int) a (3 : Nat))).snd)).snd
 (↑j : Int)),
 D.i
 (itvHi (3 : Int)
 (asgZ (3 : Int) (IntKind.i64.wrap ((IntKind.u64.wrap x).tmod (3 : Int)))
 (ex
 (ex (tamP (3 : Int) (Int.toNat (6 : Int)) (ex k n v d)).k
 (tamP (3 : Int) (Int.toNat (6 : Int)) (ex k n v d)).n
 (tamP (3 : Int) (Int.toNat (6 : Int)) (ex k n v d)).v
 (dE (tamP (3 : Int) (Int.toNat (6 : Int)) (ex k n v d)).kids)).k
 (ex (tamP (3 : Int) (Int.toNat (6 : Int)) (ex k n v d)).k
 (tamP (3 : Int) (Int.toNat (6 : Int)) (ex k n v d)).n
 (tamP (3 : Int) (Int.toNat (6 : Int)) (ex k n v d)).v
 (dE (tamP (3 : Int) (Int.toNat (6 : Int)) (ex k n v d)).kids)).n
 (ex (tamP (3 : Int) (Int.toNat (6 : Int)) (ex k n v d)).k
 (tamP (3 : Int) (Int.toNat (6 : Int)) (ex k n v d)).n
 (tamP (3 : Int) (Int.toNat (6 : Int)) (ex k n v d)).v
 (dE (tamP (3 : Int) (Int.toNat (6 : Int)) (ex k n v d)).kids)).v
 (dE
 (ex (tamP (3 : Int) (Int.toNat (6 : Int)) (ex k n v d)).k
 (tamP (3 : Int) (Int.toNat (6 : Int)) (ex k n v d)).n
 (tamP (3 : Int) (Int.toNat (6 : Int)) (ex k n v d)).v
 (dE (tamP (3 : Int) (Int.toNat (6 : Int)) (ex k n v d)).kids)).kids))
 ((jnZ (3 : Int) (rowZ (3 : Int) a (3 : Nat)) (rowZ (3 : Int) a (3 : Nat))).fst,
 (jnZ (3 : Int) (rowZ (3 : Int) a (3 : Nat))
 (rowZ (3 : Int) a (3 : Nat))).snd)).fst
 (asgZ (3 : Int) (IntKind.i64.wrap ((IntKind.u64.wrap x).tmod (3 : Int)))
 (ex
 (ex (tamP (3 : Int) (Int.toNat (6 : Int)) (ex k n v d)).k
 (tamP (3 : Int) (Int.toNat (6 : Int)) (ex k n v d)).n
 (tamP (3 : Int) (Int.toNat (6 : Int)) (ex k n v d)).v
 (dE (tamP (3 : Int) (Int.toNat (6 : Int)) (ex k n v d)).kids)).k
 (ex (tamP (3 : Int) (Int.toNat (6 : Int)) (ex k n v d)).k
 (tamP (3 : Int) (Int.toNat (6 : Int)) (ex k n v d)).n
 (tamP (3 : Int) (Int.toNat (6 : Int)) (ex k n v d)).v
 (dE (tamP (3 : Int) (Int.toNat (6 : Int)) (ex k n v d)).kids)).n
 (ex (tamP (3 : Int) (Int.toNat (6 : Int)) (ex k n v d)).k
 (tamP (3 : Int) (Int.toNat (6 : Int)) (ex k n v d)).n
 (tamP (3 : Int) (Int.toNat (6 : Int)) (ex k n v d)).v
 (dE (tamP (3 : Int) (Int.toNat (6 : Int)) (ex k n v d)).kids)).v
 (dE
 (ex (tamP (3 : Int) (Int.toNat (6 : Int)) (ex k n v d)).k
 (tamP (3 : Int) (Int.toNat (6 : Int)) (ex k n v d)).n
 (tamP (3 : Int) (Int.toNat (6 : Int)) (ex k n v d)).v
 (dE (tamP (3 : Int) (Int.toNat (6 : Int)) (ex k n v d)).kids)).kids))
 ((jnZ (3 : Int) (rowZ (3 : Int) a (3 : Nat)) (rowZ (3 : Int) a (3 : Nat))).fst,
 (jnZ (3 : Int) (rowZ (3 : Int) a (3 : Nat))
 (rowZ (3 : Int) a (3 : Nat))).snd)).snd
 (↑j : Int))])
 (List.range (Int.toNat (3 : Int))) ∧
 (3 : Int) = (3 : Int) ∧
 (asgZ (3 : Int) (IntKind.i64.wrap ((IntKind.u64.wrap x).tmod (3 : Int)))
 (ex
 (ex (tamP (3 : Int) (Int.toNat (6 : Int)) (ex k n v d)).k
 (tamP (3 : Int) (Int.toNat (6 : Int)) (ex k n v d)).n
 (tamP (3 : Int) (Int.toNat (6 : Int)) (ex k n v d)).v
 (dE (tamP (3 : Int) (Int.toNat (6 : Int)) (ex k n v d)).kids)).k
 (ex (tamP (3 : Int) (Int.toNat (6 : Int)) (ex k n v d)).k
 (tamP (3 : Int) (Int.toNat (6 : Int)) (ex k n v d)).n
 (tamP (3 : Int) (Int.toNat (6 : Int)) (ex k n v d)).v
 (dE (tamP (3 : Int) (Int.toNat (6 : Int)) (ex k n v d)).kids)).n
 (ex (tamP (3 : Int) (Int.toNat (6 : Int)) (ex k n v d)).k
 (tamP (3 : Int) (Int.toNat (6 : Int)) (ex k n v d)).n
 (tamP (3 : Int) (Int.toNat (6 : Int)) (ex k n v d)).v
 (dE (tamP (3 : Int) (Int.toNat (6 : Int)) (ex k n v d)).kids)).v
 (dE
 (ex (tamP (3 : Int) (Int.toNat (6 : Int)) (ex k n v d)).k
 (tamP (3 : Int) (Int.toNat (6 : Int)) (ex k n v d)).n
 (tamP (3 : Int) (Int.toNat (6 : Int)) (ex k n v d)).v
 (dE (tamP (3 : Int) (Int.toNat (6 : Int)) (ex k n v d)).kids)).kids))
 ((jnZ (3 : Int) (rowZ (3 : Int) a (3 : Nat)) (rowZ (3 : Int) a (3 : Nat))).fst,
 (jnZ (3 : Int) (rowZ (3 : Int) a (3 : Nat)) (rowZ (3 : Int) a (3 : Nat))).snd)).fst =
 (asgZ (3 : Int) (IntKind.i64.wrap ((IntKind.u64.wrap x).tmod (3 : Int)))
 (ex
 (ex (tamP (3 : Int) (Int.toNat (6 : Int)) (ex k n v d)).k
 (tamP (3 : Int) (Int.toNat (6 : Int)) (ex k n v d)).n
 (tamP (3 : Int) (Int.toNat (6 : Int)) (ex k n v d)).v
 (dE (tamP (3 : Int) (Int.toNat (6 : Int)) (ex k n v d)).kids)).k
 (ex (tamP (3 : Int) (Int.toNat (6 : Int)) (ex k n v d)).k
 (tamP (3 : Int) (Int.toNat (6 : Int)) (ex k n v d)).n
 (tamP (3 : Int) (Int.toNat (6 : Int)) (ex k n v d)).v
 (dE (tamP (3 : Int) (Int.toNat (6 : Int)) (ex k n v d)).kids)).n
 (ex (tamP (3 : Int) (Int.toNat (6 : Int)) (ex k n v d)).k
 (tamP (3 : Int) (Int.toNat (6 : Int)) (ex k n v d)).n
 (tamP (3 : Int) (Int.toNat (6 : Int)) (ex k n v d)).v
 (dE (tamP (3 : Int) (Int.toNat (6 : Int)) (ex k n v d)).kids)).v
 (dE
 (ex (tamP (3 : Int) (Int.toNat (6 : Int)) (ex k n v d)).k
 (tamP (3 : Int) (Int.toNat (6 : Int)) (ex k n v d)).n
 (tamP (3 : Int) (Int.toNat (6 : Int)) (ex k n v d)).v
 (dE (tamP (3 : Int) (Int.toNat (6 : Int)) (ex k n v d)).kids)).kids))
 ((jnZ (3 : Int) (rowZ (3 : Int) a (3 : Nat)) (rowZ (3 : Int) a (3 : Nat))).fst,
 (jnZ (3 : Int) (rowZ (3 : Int) a (3 : Nat)) (rowZ (3 : Int) a (3 : Nat))).snd)).fst ∧
 ∀ (o : Nat),
 o < nat_lit 49 →
 (asgZ (3 : Int) (IntKind.i64.wrap ((IntKind.u64.wrap x).tmod (3 : Int)))
 (ex
 (ex (tamP (3 : Int) (Int.toNat (6 : Int)) (ex k n v d)).k
 (tamP (3 : Int) (Int.toNat (6 : Int)) (ex k n v d)).n
 (tamP (3 : Int) (Int.toNat (6 : Int)) (ex k n v d)).v
 (dE (tamP (3 : Int) (Int.toNat (6 : Int)) (ex k n v d)).kids)).k
 (ex (tamP (3 : Int) (Int.toNat (6 : Int)) (ex k n v d)).k
 (tamP (3 : Int) (Int.toNat (6 : Int)) (ex k n v d)).n
 (tamP (3 : Int) (Int.toNat (6 : Int)) (ex k n v d)).v
 (dE (tamP (3 : Int) (Int.toNat (6 : Int)) (ex k n v d)).kids)).n
 (ex (tamP (3 : Int) (Int.toNat (6 : Int)) (ex k n v d)).k
 (tamP (3 : Int) (Int.toNat (6 : Int)) (ex k n v d)).n
 (tamP (3 : Int) (Int.toNat (6 : Int)) (ex k n v d)).v
 (dE (tamP (3 : Int) (Int.toNat (6 : Int)) (ex k n v d)).kids)).v
 (dE
 (ex (tamP (3 : Int) (Int.toNat (6 : Int)) (ex k n v d)).k
 (tamP (3 : Int) (Int.toNat (6 : Int)) (ex k n v d)).n
 (tamP (3 : Int) (Int.toNat (6 : Int)) (ex k n v d)).v
 (dE (tamP (3 : Int) (Int.toNat (6 : Int)) (ex k n v d)).kids)).kids))
 ((jnZ (3 : Int) (rowZ (3 : Int) a (3 : Nat)) (rowZ (3 : Int) a (3 : Nat))).fst,
 (jnZ (3 : Int) (rowZ (3 : Int) a (3 : Nat))
 (rowZ (3 : Int) a (3 : Nat))).snd)).snd
 o =
 (asgZ (3 : Int) (IntKind.i64.wrap ((IntKind.u64.wrap x).tmod (3 : Int)))
 (ex
 (ex (tamP (3 : Int) (Int.toNat (6 : Int)) (ex k n v d)).k
 (tamP (3 : Int) (Int.toNat (6 : Int)) (ex k n v d)).n
 (tamP (3 : Int) (Int.toNat (6 : Int)) (ex k n v d)).v
 (dE (tamP (3 : Int) (Int.toNat (6 : Int)) (ex k n v d)).kids)).k
 (ex (tamP (3 : Int) (Int.toNat (6 : Int)) (ex k n v d)).k
 (tamP (3 : Int) (Int.toNat (6 : Int)) (ex k n v d)).n
 (tamP (3 : Int) (Int.toNat (6 : Int)) (ex k n v d)).v
 (dE (tamP (3 : Int) (Int.toNat (6 : Int)) (ex k n v d)).kids)).n
 (ex (tamP (3 : Int) (Int.toNat (6 : Int)) (ex k n v d)).k
 (tamP (3 : Int) (Int.toNat (6 : Int)) (ex k n v d)).n
 (tamP (3 : Int) (Int.toNat (6 : Int)) (ex k n v d)).v
 (dE (tamP (3 : Int) (Int.toNat (6 : Int)) (ex k n v d)).kids)).v
 (dE
 (ex (tamP (3 : Int) (Int.toNat (6 : Int)) (ex k n v d)).k
 (tamP (3 : Int) (Int.toNat (6 : Int)) (ex k n v d)).n
 (tamP (3 : Int) (Int.toNat (6 : Int)) (ex k n v d)).v
 (dE (tamP (3 : Int) (Int.toNat (6 : Int)) (ex k n v d)).kids)).kids))
 ((jnZ (3 : Int) (rowZ (3 : Int) a (3 : Nat)) (rowZ (3 : Int) a (3 : Nat))).fst,
 (jnZ (3 : Int) (rowZ (3 : Int) a (3 : Nat))
 (rowZ (3 : Int) a (3 : Nat))).snd)).snd
 o) ∧
 ∀ (i : Bool),
 True →
 (((evaP (Int.toNat (3 : Int)) (3 : Int)
 ((jnZ (3 : Int) (rowZ (3 : Int) a (3 : Nat)) (rowZ (3 : Int) a (3 : Nat))).fst,
 (jnZ (3 : Int) (rowZ (3 : Int) a (3 : Nat)) (rowZ (3 : Int) a (3 : Nat))).snd)
 (ex
 (ex (tamP (3 : Int) (Int.toNat (6 : Int)) (ex k n v d)).k
 (tamP (3 : Int) (Int.toNat (6 : Int)) (ex k n v d)).n
 (tamP (3 : Int) (Int.toNat (6 : Int)) (ex k n v d)).v
 (dE (tamP (3 : Int) (Int.toNat (6 : Int)) (ex k n v d)).kids)).k
 (ex (tamP (3 : Int) (Int.toNat (6 : Int)) (ex k n v d)).k
 (tamP (3 : Int) (Int.toNat (6 : Int)) (ex k n v d)).n
 (tamP (3 : Int) (Int.toNat (6 : Int)) (ex k n v d)).v
 (dE (tamP (3 : Int) (Int.toNat (6 : Int)) (ex k n v d)).kids)).n
 (ex (tamP (3 : Int) (Int.toNat (6 : Int)) (ex k n v d)).k
 (tamP (3 : Int) (Int.toNat (6 : Int)) (ex k n v d)).n
 (tamP (3 : Int) (Int.toNat (6 : Int)) (ex k n v d)).v
 (dE (tamP (3 : Int) (Int.toNat (6 : Int)) (ex k n v d)).kids)).v
 (dE
 (ex (tamP (3 : Int) (Int.toNat (6 : Int)) (ex k n v d)).k
 (tamP (3 : Int) (Int.toNat (6 : Int)) (ex k n v d)).n
 (tamP (3 : Int) (Int.toNat (6 : Int)) (ex k n v d)).v
 (dE (tamP (3 : Int) (Int.toNat (6 : Int)) (ex k n v d)).kids)).kids))).fst.fst ==
 ofLo
 (evT (vD ((rowI (3 : Nat) fun (j : Nat) => a j).sub (nat_lit 0) (nat_lit 0 + nat_lit 3)))
 (ex (tamP (3 : Int) (Int.toNat (6 : Int)) (ex k n v d)).k
 (tamP (3 : Int) (Int.toNat (6 : Int)) (ex k n v d)).n
 (tamP (3 : Int) (Int.toNat (6 : Int)) (ex k n v d)).v
 (dE (tamP (3 : Int) (Int.toNat (6 : Int)) (ex k n v d)).kids))).fst
 (evT (vD ((rowI (3 : Nat) fun (j : Nat) => a j).sub (nat_lit 0) (nat_lit 0 + nat_lit 3)))
 (ex (tamP (3 : Int) (Int.toNat (6 : Int)) (ex k n v d)).k
 (tamP (3 : Int) (Int.toNat (6 : Int)) (ex k n v d)).n
 (tamP (3 : Int) (Int.toNat (6 : Int)) (ex k n v d)).v
 (dE (tamP (3 : Int) (Int.toNat (6 : Int)) (ex k n v d)).kids))).fst &&
 ((evaP (Int.toNat (3 : Int)) (3 : Int)
 ((jnZ (3 : Int) (rowZ (3 : Int) a (3 : Nat)) (rowZ (3 : Int) a (3 : Nat))).fst,
 (jnZ (3 : Int) (rowZ (3 : Int) a (3 : Nat)) (rowZ (3 : Int) a (3 : Nat))).snd)
 (ex
 (ex (tamP (3 : Int) (Int.toNat (6 : Int)) (ex k n v d)).k
 (tamP (3 : Int) (Int.toNat (6 : Int)) (ex k n v d)).n
 (tamP (3 : Int) (Int.toNat (6 : Int)) (ex k n v d)).v
 (dE (tamP (3 : Int) (Int.toNat (6 : Int)) (ex k n v d)).kids)).k
 (ex (tamP (3 : Int) (Int.toNat (6 : Int)) (ex k n v d)).k
 (tamP (3 : Int) (Int.toNat (6 : Int)) (ex k n v d)).n
 (tamP (3 : Int) (Int.toNat (6 : Int)) (ex k n v d)).v
 (dE (tamP (3 : Int) (Int.toNat (6 : Int)) (ex k n v d)).kids)).n
 (ex (tamP (3 : Int) (Int.toNat (6 : Int)) (ex k n v d)).k
 (tamP (3 : Int) (Int.toNat (6 : Int)) (ex k n v d)).n
 (tamP (3 : Int) (Int.toNat (6 : Int)) (ex k n v d)).v
 (dE (tamP (3 : Int) (Int.toNat (6 : Int)) (ex k n v d)).kids)).v
 (dE
 (ex (tamP (3 : Int) (Int.toNat (6 : Int)) (ex k n v d)).k
 (tamP (3 : Int) (Int.toNat (6 : Int)) (ex k n v d)).n
 (tamP (3 : Int) (Int.toNat (6 : Int)) (ex k n v d)).v
 (dE (tamP (3 : Int) (Int.toNat (6 : Int)) (ex k n v d)).kids)).kids))).fst.snd ==
 ofHi
 (evT (vD ((rowI (3 : Nat) fun (j : Nat) => a j).sub (nat_lit 0) (nat_lit 0 + nat_lit 3)))
 (ex (tamP (3 : Int) (Int.toNat (6 : Int)) (ex k n v d)).k
 (tamP (3 : Int) (Int.toNat (6 : Int)) (ex k n v d)).n
 (tamP (3 : Int) (Int.toNat (6 : Int)) (ex k n v d)).v
 (dE (tamP (3 : Int) (Int.toNat (6 : Int)) (ex k n v d)).kids))).fst
 (evT (vD ((rowI (3 : Nat) fun (j : Nat) => a j).sub (nat_lit 0) (nat_lit 0 + nat_lit 3)))
 (ex (tamP (3 : Int) (Int.toNat (6 : Int)) (ex k n v d)).k
 (tamP (3 : Int) (Int.toNat (6 : Int)) (ex k n v d)).n
 (tamP (3 : Int) (Int.toNat (6 : Int)) (ex k n v d)).v
 (dE (tamP (3 : Int) (Int.toNat (6 : Int)) (ex k n v d)).kids))).fst &&
 true)) =
 true ∧
 True →
 (itD (Int.toNat (3 : Int)) (3 : Int)
 (asgZ (3 : Int) (IntKind.i64.wrap ((IntKind.u64.wrap x).tmod (3 : Int)))
 (ex
 (ex (tamP (3 : Int) (Int.toNat (6 : Int)) (ex k n v d)).k
 (tamP (3 : Int) (Int.toNat (6 : Int)) (ex k n v d)).n
 (tamP (3 : Int) (Int.toNat (6 : Int)) (ex k n v d)).v
 (dE (tamP (3 : Int) (Int.toNat (6 : Int)) (ex k n v d)).kids)).k
 (ex (tamP (3 : Int) (Int.toNat (6 : Int)) (ex k n v d)).k
 (tamP (3 : Int) (Int.toNat (6 : Int)) (ex k n v d)).n
 (tamP (3 : Int) (Int.toNat (6 : Int)) (ex k n v d)).v
 (dE (tamP (3 : Int) (Int.toNat (6 : Int)) (ex k n v d)).kids)).n
 (ex (tamP (3 : Int) (Int.toNat (6 : Int)) (ex k n v d)).k
 (tamP (3 : Int) (Int.toNat (6 : Int)) (ex k n v d)).n
 (tamP (3 : Int) (Int.toNat (6 : Int)) (ex k n v d)).v
 (dE (tamP (3 : Int) (Int.toNat (6 : Int)) (ex k n v d)).kids)).v
 (dE
 (ex (tamP (3 : Int) (Int.toNat (6 : Int)) (ex k n v d)).k
 (tamP (3 : Int) (Int.toNat (6 : Int)) (ex k n v d)).n
 (tamP (3 : Int) (Int.toNat (6 : Int)) (ex k n v d)).v
 (dE (tamP (3 : Int) (Int.toNat (6 : Int)) (ex k n v d)).kids)).kids))
 ((jnZ (3 : Int) (rowZ (3 : Int) a (3 : Nat)) (rowZ (3 : Int) a (3 : Nat))).fst,
 (jnZ (3 : Int) (rowZ (3 : Int) a (3 : Nat)) (rowZ (3 : Int) a (3 : Nat))).snd))).len ≤
 (1000 : Nat)) ∧
 (((evaP (Int.toNat (3 : Int)) (3 : Int)
 ((jnZ (3 : Int) (rowZ (3 : Int) a (3 : Nat)) (rowZ (3 : Int) a (3 : Nat))).fst,
 (jnZ (3 : Int) (rowZ (3 : Int) a (3 : Nat)) (rowZ (3 : Int) a (3 : Nat))).snd)
 (ex
 (ex (tamP (3 : Int) (Int.toNat (6 : Int)) (ex k n v d)).k
 (tamP (3 : Int) (Int.toNat (6 : Int)) (ex k n v d)).n
 (tamP (3 : Int) (Int.toNat (6 : Int)) (ex k n v d)).v
 (dE (tamP (3 : Int) (Int.toNat (6 : Int)) (ex k n v d)).kids)).k
 (ex (tamP (3 : Int) (Int.toNat (6 : Int)) (ex k n v d)).k
 (tamP (3 : Int) (Int.toNat (6 : Int)) (ex k n v d)).n
 (tamP (3 : Int) (Int.toNat (6 : Int)) (ex k n v d)).v
 (dE (tamP (3 : Int) (Int.toNat (6 : Int)) (ex k n v d)).kids)).n
 (ex (tamP (3 : Int) (Int.toNat (6 : Int)) (ex k n v d)).k
 (tamP (3 : Int) (Int.toNat (6 : Int)) (ex k n v d)).n
 (tamP (3 : Int) (Int.toNat (6 : Int)) (ex k n v d)).v
 (dE (tamP (3 : Int) (Int.toNat (6 : Int)) (ex k n v d)).kids)).v
 (dE
 (ex (tamP (3 : Int) (Int.toNat (6 : Int)) (ex k n v d)).k
 (tamP (3 : Int) (Int.toNat (6 : Int)) (ex k n v d)).n
 (tamP (3 : Int) (Int.toNat (6 : Int)) (ex k n v d)).v
 (dE (tamP (3 : Int) (Int.toNat (6 : Int)) (ex k n v d)).kids)).kids))).fst.fst ==
 ofLo
 (evT (vD ((rowI (3 : Nat) fun (j : Nat) => a j).sub (nat_lit 0) (nat_lit 0 + nat_lit 3)))
 (ex (tamP (3 : Int) (Int.toNat (6 : Int)) (ex k n v d)).k
 (tamP (3 : Int) (Int.toNat (6 : Int)) (ex k n v d)).n
 (tamP (3 : Int) (Int.toNat (6 : Int)) (ex k n v d)).v
 (dE (tamP (3 : Int) (Int.toNat (6 : Int)) (ex k n v d)).kids))).fst
 (evT (vD ((rowI (3 : Nat) fun (j : Nat) => a j).sub (nat_lit 0) (nat_lit 0 + nat_lit 3)))
 (ex (tamP (3 : Int) (Int.toNat (6 : Int)) (ex k n v d)).k
 (tamP (3 : Int) (Int.toNat (6 : Int)) (ex k n v d)).n
 (tamP (3 : Int) (Int.toNat (6 : Int)) (ex k n v d)).v
 (dE (tamP (3 : Int) (Int.toNat (6 : Int)) (ex k n v d)).kids))).fst &&
 ((evaP (Int.toNat (3 : Int)) (3 : Int)
 ((jnZ (3 : Int) (rowZ (3 : Int) a (3 : Nat)) (rowZ (3 : Int) a (3 : Nat))).fst,
 (jnZ (3 : Int) (rowZ (3 : Int) a (3 : Nat)) (rowZ (3 : Int) a (3 : Nat))).snd)
 (ex
 (ex (tamP (3 : Int) (Int.toNat (6 : Int)) (ex k n v d)).k
 (tamP (3 : Int) (Int.toNat (6 : Int)) (ex k n v d)).n
 (tamP (3 : Int) (Int.toNat (6 : Int)) (ex k n v d)).v
 (dE (tamP (3 : Int) (Int.toNat (6 : Int)) (ex k n v d)).kids)).k
 (ex (tamP (3 : Int) (Int.toNat (6 : Int)) (ex k n v d)).k
 (tamP (3 : Int) (Int.toNat (6 : Int)) (ex k n v d)).n
 (tamP (3 : Int) (Int.toNat (6 : Int)) (ex k n v d)).v
 (dE (tamP (3 : Int) (Int.toNat (6 : Int)) (ex k n v d)).kids)).n
 (ex (tamP (3 : Int) (Int.toNat (6 : Int)) (ex k n v d)).k
 (tamP (3 : Int) (Int.toNat (6 : Int)) (ex k n v d)).n
 (tamP (3 : Int) (Int.toNat (6 : Int)) (ex k n v d)).v
 (dE (tamP (3 : Int) (Int.toNat (6 : Int)) (ex k n v d)).kids)).v
 (dE
 (ex (tamP (3 : Int) (Int.toNat (6 : Int)) (ex k n v d)).k
 (tamP (3 : Int) (Int.toNat (6 : Int)) (ex k n v d)).n
 (tamP (3 : Int) (Int.toNat (6 : Int)) (ex k n v d)).v
 (dE (tamP (3 : Int) (Int.toNat (6 : Int)) (ex k n v d)).kids)).kids))).fst.snd ==
 ofHi
 (evT (vD ((rowI (3 : Nat) fun (j : Nat) => a j).sub (nat_lit 0) (nat_lit 0 + nat_lit 3)))
 (ex (tamP (3 : Int) (Int.toNat (6 : Int)) (ex k n v d)).k
 (tamP (3 : Int) (Int.toNat (6 : Int)) (ex k n v d)).n
 (tamP (3 : Int) (Int.toNat (6 : Int)) (ex k n v d)).v
 (dE (tamP (3 : Int) (Int.toNat (6 : Int)) (ex k n v d)).kids))).fst
 (evT (vD ((rowI (3 : Nat) fun (j : Nat) => a j).sub (nat_lit 0) (nat_lit 0 + nat_lit 3)))
 (ex (tamP (3 : Int) (Int.toNat (6 : Int)) (ex k n v d)).k
 (tamP (3 : Int) (Int.toNat (6 : Int)) (ex k n v d)).n
 (tamP (3 : Int) (Int.toNat (6 : Int)) (ex k n v d)).v
 (dE (tamP (3 : Int) (Int.toNat (6 : Int)) (ex k n v d)).kids))).fst &&
 true) &&
 nhasP
 (asgZ (3 : Int) (IntKind.i64.wrap ((IntKind.u64.wrap x).tmod (3 : Int)))
 (ex
 (ex (tamP (3 : Int) (Int.toNat (6 : Int)) (ex k n v d)).k
 (tamP (3 : Int) (Int.toNat (6 : Int)) (ex k n v d)).n
 (tamP (3 : Int) (Int.toNat (6 : Int)) (ex k n v d)).v
 (dE (tamP (3 : Int) (Int.toNat (6 : Int)) (ex k n v d)).kids)).k
 (ex (tamP (3 : Int) (Int.toNat (6 : Int)) (ex k n v d)).k
 (tamP (3 : Int) (Int.toNat (6 : Int)) (ex k n v d)).n
 (tamP (3 : Int) (Int.toNat (6 : Int)) (ex k n v d)).v
 (dE (tamP (3 : Int) (Int.toNat (6 : Int)) (ex k n v d)).kids)).n
 (ex (tamP (3 : Int) (Int.toNat (6 : Int)) (ex k n v d)).k
 (tamP (3 : Int) (Int.toNat (6 : Int)) (ex k n v d)).n
 (tamP (3 : Int) (Int.toNat (6 : Int)) (ex k n v d)).v
 (dE (tamP (3 : Int) (Int.toNat (6 : Int)) (ex k n v d)).kids)).v
 (dE
 (ex (tamP (3 : Int) (Int.toNat (6 : Int)) (ex k n v d)).k
 (tamP (3 : Int) (Int.toNat (6 : Int)) (ex k n v d)).n
 (tamP (3 : Int) (Int.toNat (6 : Int)) (ex k n v d)).v
 (dE (tamP (3 : Int) (Int.toNat (6 : Int)) (ex k n v d)).kids)).kids))
 ((jnZ (3 : Int) (rowZ (3 : Int) a (3 : Nat)) (rowZ (3 : Int) a (3 : Nat))).fst,
 (jnZ (3 : Int) (rowZ (3 : Int) a (3 : Nat)) (rowZ (3 : Int) a (3 : Nat))).snd)).fst
 (itD (Int.toNat (3 : Int)) (3 : Int)
 (asgZ (3 : Int) (IntKind.i64.wrap ((IntKind.u64.wrap x).tmod (3 : Int)))
 (ex
 (ex (tamP (3 : Int) (Int.toNat (6 : Int)) (ex k n v d)).k
 (tamP (3 : Int) (Int.toNat (6 : Int)) (ex k n v d)).n
 (tamP (3 : Int) (Int.toNat (6 : Int)) (ex k n v d)).v
 (dE (tamP (3 : Int) (Int.toNat (6 : Int)) (ex k n v d)).kids)).k
 (ex (tamP (3 : Int) (Int.toNat (6 : Int)) (ex k n v d)).k
 (tamP (3 : Int) (Int.toNat (6 : Int)) (ex k n v d)).n
 (tamP (3 : Int) (Int.toNat (6 : Int)) (ex k n v d)).v
 (dE (tamP (3 : Int) (Int.toNat (6 : Int)) (ex k n v d)).kids)).n
 (ex (tamP (3 : Int) (Int.toNat (6 : Int)) (ex k n v d)).k
 (tamP (3 : Int) (Int.toNat (6 : Int)) (ex k n v d)).n
 (tamP (3 : Int) (Int.toNat (6 : Int)) (ex k n v d)).v
 (dE (tamP (3 : Int) (Int.toNat (6 : Int)) (ex k n v d)).kids)).v
 (dE
 (ex (tamP (3 : Int) (Int.toNat (6 : Int)) (ex k n v d)).k
 (tamP (3 : Int) (Int.toNat (6 : Int)) (ex k n v d)).n
 (tamP (3 : Int) (Int.toNat (6 : Int)) (ex k n v d)).v
 (dE (tamP (3 : Int) (Int.toNat (6 : Int)) (ex k n v d)).kids)).kids))
 ((jnZ (3 : Int) (rowZ (3 : Int) a (3 : Nat)) (rowZ (3 : Int) a (3 : Nat))).fst,
 (jnZ (3 : Int) (rowZ (3 : Int) a (3 : Nat)) (rowZ (3 : Int) a (3 : Nat))).snd)))
 (3 : Int)
 (asgZ (3 : Int) (IntKind.i64.wrap ((IntKind.u64.wrap x).tmod (3 : Int)))
 (ex
 (ex (tamP (3 : Int) (Int.toNat (6 : Int)) (ex k n v d)).k
 (tamP (3 : Int) (Int.toNat (6 : Int)) (ex k n v d)).n
 (tamP (3 : Int) (Int.toNat (6 : Int)) (ex k n v d)).v
 (dE (tamP (3 : Int) (Int.toNat (6 : Int)) (ex k n v d)).kids)).k
 (ex (tamP (3 : Int) (Int.toNat (6 : Int)) (ex k n v d)).k
 (tamP (3 : Int) (Int.toNat (6 : Int)) (ex k n v d)).n
 (tamP (3 : Int) (Int.toNat (6 : Int)) (ex k n v d)).v
 (dE (tamP (3 : Int) (Int.toNat (6 : Int)) (ex k n v d)).kids)).n
 (ex (tamP (3 : Int) (Int.toNat (6 : Int)) (ex k n v d)).k
 (tamP (3 : Int) (Int.toNat (6 : Int)) (ex k n v d)).n
 (tamP (3 : Int) (Int.toNat (6 : Int)) (ex k n v d)).v
 (dE (tamP (3 : Int) (Int.toNat (6 : Int)) (ex k n v d)).kids)).v
 (dE
 (ex (tamP (3 : Int) (Int.toNat (6 : Int)) (ex k n v d)).k
 (tamP (3 : Int) (Int.toNat (6 : Int)) (ex k n v d)).n
 (tamP (3 : Int) (Int.toNat (6 : Int)) (ex k n v d)).v
 (dE (tamP (3 : Int) (Int.toNat (6 : Int)) (ex k n v d)).kids)).kids))
 ((jnZ (3 : Int) (rowZ (3 : Int) a (3 : Nat)) (rowZ (3 : Int) a (3 : Nat))).fst,
 (jnZ (3 : Int) (rowZ (3 : Int) a (3 : Nat)) (rowZ (3 : Int) a (3 : Nat))).snd)).fst
 (asgZ (3 : Int) (IntKind.i64.wrap ((IntKind.u64.wrap x).tmod (3 : Int)))
 (ex
 (ex (tamP (3 : Int) (Int.toNat (6 : Int)) (ex k n v d)).k
 (tamP (3 : Int) (Int.toNat (6 : Int)) (ex k n v d)).n
 (tamP (3 : Int) (Int.toNat (6 : Int)) (ex k n v d)).v
 (dE (tamP (3 : Int) (Int.toNat (6 : Int)) (ex k n v d)).kids)).k
 (ex (tamP (3 : Int) (Int.toNat (6 : Int)) (ex k n v d)).k
 (tamP (3 : Int) (Int.toNat (6 : Int)) (ex k n v d)).n
 (tamP (3 : Int) (Int.toNat (6 : Int)) (ex k n v d)).v
 (dE (tamP (3 : Int) (Int.toNat (6 : Int)) (ex k n v d)).kids)).n
 (ex (tamP (3 : Int) (Int.toNat (6 : Int)) (ex k n v d)).k
 (tamP (3 : Int) (Int.toNat (6 : Int)) (ex k n v d)).n
 (tamP (3 : Int) (Int.toNat (6 : Int)) (ex k n v d)).v
 (dE (tamP (3 : Int) (Int.toNat (6 : Int)) (ex k n v d)).kids)).v
 (dE
 (ex (tamP (3 : Int) (Int.toNat (6 : Int)) (ex k n v d)).k
 (tamP (3 : Int) (Int.toNat (6 : Int)) (ex k n v d)).n
 (tamP (3 : Int) (Int.toNat (6 : Int)) (ex k n v d)).v
 (dE (tamP (3 : Int) (Int.toNat (6 : Int)) (ex k n v d)).kids)).kids))
 ((jnZ (3 : Int) (rowZ (3 : Int) a (3 : Nat)) (rowZ (3 : Int) a (3 : Nat))).fst,
 (jnZ (3 : Int) (rowZ (3 : Int) a (3 : Nat)) (rowZ (3 : Int) a (3 : Nat))).snd)).snd
 (rowI (3 : Nat)
 (upd (hz a) (IntKind.i64.wrap ((IntKind.u64.wrap x).tmod (3 : Int))).toNat
 (evT (vD ((rowI (3 : Nat) fun (j : Nat) => a j).sub (nat_lit 0) (nat_lit 0 + nat_lit 3)))
 (ex (tamP (3 : Int) (Int.toNat (6 : Int)) (ex k n v d)).k
 (tamP (3 : Int) (Int.toNat (6 : Int)) (ex k n v d)).n
 (tamP (3 : Int) (Int.toNat (6 : Int)) (ex k n v d)).v
 (dE (tamP (3 : Int) (Int.toNat (6 : Int)) (ex k n v d)).kids))).fst))) =
 true ∧
 True →
 (rowI (3 : Nat)
 (upd (hz a) (IntKind.i64.wrap ((IntKind.u64.wrap x).tmod (3 : Int))).toNat
 (evT (vD ((rowI (3 : Nat) fun (j : Nat) => a j).sub (nat_lit 0) (nat_lit 0 + nat_lit 3)))
 (ex (tamP (3 : Int) (Int.toNat (6 : Int)) (ex k n v d)).k
 (tamP (3 : Int) (Int.toNat (6 : Int)) (ex k n v d)).n
 (tamP (3 : Int) (Int.toNat (6 : Int)) (ex k n v d)).v
 (dE (tamP (3 : Int) (Int.toNat (6 : Int)) (ex k n v d)).kids))).fst)).len ≤
 (6 : Nat)) ∧
 (((evaP (Int.toNat (3 : Int)) (3 : Int)
 ((jnZ (3 : Int) (rowZ (3 : Int) a (3 : Nat)) (rowZ (3 : Int) a (3 : Nat))).fst,
 (jnZ (3 : Int) (rowZ (3 : Int) a (3 : Nat)) (rowZ (3 : Int) a (3 : Nat))).snd)
 (ex
 (ex (tamP (3 : Int) (Int.toNat (6 : Int)) (ex k n v d)).k
 (tamP (3 : Int) (Int.toNat (6 : Int)) (ex k n v d)).n
 (tamP (3 : Int) (Int.toNat (6 : Int)) (ex k n v d)).v
 (dE (tamP (3 : Int) (Int.toNat (6 : Int)) (ex k n v d)).kids)).k
 (ex (tamP (3 : Int) (Int.toNat (6 : Int)) (ex k n v d)).k
 (tamP (3 : Int) (Int.toNat (6 : Int)) (ex k n v d)).n
 (tamP (3 : Int) (Int.toNat (6 : Int)) (ex k n v d)).v
 (dE (tamP (3 : Int) (Int.toNat (6 : Int)) (ex k n v d)).kids)).n
 (ex (tamP (3 : Int) (Int.toNat (6 : Int)) (ex k n v d)).k
 (tamP (3 : Int) (Int.toNat (6 : Int)) (ex k n v d)).n
 (tamP (3 : Int) (Int.toNat (6 : Int)) (ex k n v d)).v
 (dE (tamP (3 : Int) (Int.toNat (6 : Int)) (ex k n v d)).kids)).v
 (dE
 (ex (tamP (3 : Int) (Int.toNat (6 : Int)) (ex k n v d)).k
 (tamP (3 : Int) (Int.toNat (6 : Int)) (ex k n v d)).n
 (tamP (3 : Int) (Int.toNat (6 : Int)) (ex k n v d)).v
 (dE (tamP (3 : Int) (Int.toNat (6 : Int)) (ex k n v d)).kids)).kids))).fst.fst ==
 ofLo
 (evT (vD ((rowI (3 : Nat) fun (j : Nat) => a j).sub (nat_lit 0) (nat_lit 0 + nat_lit 3)))
 (ex (tamP (3 : Int) (Int.toNat (6 : Int)) (ex k n v d)).k
 (tamP (3 : Int) (Int.toNat (6 : Int)) (ex k n v d)).n
 (tamP (3 : Int) (Int.toNat (6 : Int)) (ex k n v d)).v
 (dE (tamP (3 : Int) (Int.toNat (6 : Int)) (ex k n v d)).kids))).fst
 (evT (vD ((rowI (3 : Nat) fun (j : Nat) => a j).sub (nat_lit 0) (nat_lit 0 + nat_lit 3)))
 (ex (tamP (3 : Int) (Int.toNat (6 : Int)) (ex k n v d)).k
 (tamP (3 : Int) (Int.toNat (6 : Int)) (ex k n v d)).n
 (tamP (3 : Int) (Int.toNat (6 : Int)) (ex k n v d)).v
 (dE (tamP (3 : Int) (Int.toNat (6 : Int)) (ex k n v d)).kids))).fst &&
 ((evaP (Int.toNat (3 : Int)) (3 : Int)
 ((jnZ (3 : Int) (rowZ (3 : Int) a (3 : Nat)) (rowZ (3 : Int) a (3 : Nat))).fst,
 (jnZ (3 : Int) (rowZ (3 : Int) a (3 : Nat)) (rowZ (3 : Int) a (3 : Nat))).snd)
 (ex
 (ex (tamP (3 : Int) (Int.toNat (6 : Int)) (ex k n v d)).k
 (tamP (3 : Int) (Int.toNat (6 : Int)) (ex k n v d)).n
 (tamP (3 : Int) (Int.toNat (6 : Int)) (ex k n v d)).v
 (dE (tamP (3 : Int) (Int.toNat (6 : Int)) (ex k n v d)).kids)).k
 (ex (tamP (3 : Int) (Int.toNat (6 : Int)) (ex k n v d)).k
 (tamP (3 : Int) (Int.toNat (6 : Int)) (ex k n v d)).n
 (tamP (3 : Int) (Int.toNat (6 : Int)) (ex k n v d)).v
 (dE (tamP (3 : Int) (Int.toNat (6 : Int)) (ex k n v d)).kids)).n
 (ex (tamP (3 : Int) (Int.toNat (6 : Int)) (ex k n v d)).k
 (tamP (3 : Int) (Int.toNat (6 : Int)) (ex k n v d)).n
 (tamP (3 : Int) (Int.toNat (6 : Int)) (ex k n v d)).v
 (dE (tamP (3 : Int) (Int.toNat (6 : Int)) (ex k n v d)).kids)).v
 (dE
 (ex (tamP (3 : Int) (Int.toNat (6 : Int)) (ex k n v d)).k
 (tamP (3 : Int) (Int.toNat (6 : Int)) (ex k n v d)).n
 (tamP (3 : Int) (Int.toNat (6 : Int)) (ex k n v d)).v
 (dE (tamP (3 : Int) (Int.toNat (6 : Int)) (ex k n v d)).kids)).kids))).fst.snd ==
 ofHi
 (evT (vD ((rowI (3 : Nat) fun (j : Nat) => a j).sub (nat_lit 0) (nat_lit 0 + nat_lit 3)))
 (ex (tamP (3 : Int) (Int.toNat (6 : Int)) (ex k n v d)).k
 (tamP (3 : Int) (Int.toNat (6 : Int)) (ex k n v d)).n
 (tamP (3 : Int) (Int.toNat (6 : Int)) (ex k n v d)).v
 (dE (tamP (3 : Int) (Int.toNat (6 : Int)) (ex k n v d)).kids))).fst
 (evT (vD ((rowI (3 : Nat) fun (j : Nat) => a j).sub (nat_lit 0) (nat_lit 0 + nat_lit 3)))
 (ex (tamP (3 : Int) (Int.toNat (6 : Int)) (ex k n v d)).k
 (tamP (3 : Int) (Int.toNat (6 : Int)) (ex k n v d)).n
 (tamP (3 : Int) (Int.toNat (6 : Int)) (ex k n v d)).v
 (dE (tamP (3 : Int) (Int.toNat (6 : Int)) (ex k n v d)).kids))).fst &&
 true) &&
 nhasP
 (asgZ (3 : Int) (IntKind.i64.wrap ((IntKind.u64.wrap x).tmod (3 : Int)))
 (ex
 (ex (tamP (3 : Int) (Int.toNat (6 : Int)) (ex k n v d)).k
 (tamP (3 : Int) (Int.toNat (6 : Int)) (ex k n v d)).n
 (tamP (3 : Int) (Int.toNat (6 : Int)) (ex k n v d)).v
 (dE (tamP (3 : Int) (Int.toNat (6 : Int)) (ex k n v d)).kids)).k
 (ex (tamP (3 : Int) (Int.toNat (6 : Int)) (ex k n v d)).k
 (tamP (3 : Int) (Int.toNat (6 : Int)) (ex k n v d)).n
 (tamP (3 : Int) (Int.toNat (6 : Int)) (ex k n v d)).v
 (dE (tamP (3 : Int) (Int.toNat (6 : Int)) (ex k n v d)).kids)).n
 (ex (tamP (3 : Int) (Int.toNat (6 : Int)) (ex k n v d)).k
 (tamP (3 : Int) (Int.toNat (6 : Int)) (ex k n v d)).n
 (tamP (3 : Int) (Int.toNat (6 : Int)) (ex k n v d)).v
 (dE (tamP (3 : Int) (Int.toNat (6 : Int)) (ex k n v d)).kids)).v
 (dE
 (ex (tamP (3 : Int) (Int.toNat (6 : Int)) (ex k n v d)).k
 (tamP (3 : Int) (Int.toNat (6 : Int)) (ex k n v d)).n
 (tamP (3 : Int) (Int.toNat (6 : Int)) (ex k n v d)).v
 (dE (tamP (3 : Int) (Int.toNat (6 : Int)) (ex k n v d)).kids)).kids))
 ((jnZ (3 : Int) (rowZ (3 : Int) a (3 : Nat)) (rowZ (3 : Int) a (3 : Nat))).fst,
 (jnZ (3 : Int) (rowZ (3 : Int) a (3 : Nat)) (rowZ (3 : Int) a (3 : Nat))).snd)).fst
 (itD (Int.toNat (3 : Int)) (3 : Int)
 (asgZ (3 : Int) (IntKind.i64.wrap ((IntKind.u64.wrap x).tmod (3 : Int)))
 (ex
 (ex (tamP (3 : Int) (Int.toNat (6 : Int)) (ex k n v d)).k
 (tamP (3 : Int) (Int.toNat (6 : Int)) (ex k n v d)).n
 (tamP (3 : Int) (Int.toNat (6 : Int)) (ex k n v d)).v
 (dE (tamP (3 : Int) (Int.toNat (6 : Int)) (ex k n v d)).kids)).k
 (ex (tamP (3 : Int) (Int.toNat (6 : Int)) (ex k n v d)).k
 (tamP (3 : Int) (Int.toNat (6 : Int)) (ex k n v d)).n
 (tamP (3 : Int) (Int.toNat (6 : Int)) (ex k n v d)).v
 (dE (tamP (3 : Int) (Int.toNat (6 : Int)) (ex k n v d)).kids)).n
 (ex (tamP (3 : Int) (Int.toNat (6 : Int)) (ex k n v d)).k
 (tamP (3 : Int) (Int.toNat (6 : Int)) (ex k n v d)).n
 (tamP (3 : Int) (Int.toNat (6 : Int)) (ex k n v d)).v
 (dE (tamP (3 : Int) (Int.toNat (6 : Int)) (ex k n v d)).kids)).v
 (dE
 (ex (tamP (3 : Int) (Int.toNat (6 : Int)) (ex k n v d)).k
 (tamP (3 : Int) (Int.toNat (6 : Int)) (ex k n v d)).n
 (tamP (3 : Int) (Int.toNat (6 : Int)) (ex k n v d)).v
 (dE (tamP (3 : Int) (Int.toNat (6 : Int)) (ex k n v d)).kids)).kids))
 ((jnZ (3 : Int) (rowZ (3 : Int) a (3 : Nat)) (rowZ (3 : Int) a (3 : Nat))).fst,
 (jnZ (3 : Int) (rowZ (3 : Int) a (3 : Nat)) (rowZ (3 : Int) a (3 : Nat))).snd)))
 (3 : Int)
 (asgZ (3 : Int) (IntKind.i64.wrap ((IntKind.u64.wrap x).tmod (3 : Int)))
 (ex
 (ex (tamP (3 : Int) (Int.toNat (6 : Int)) (ex k n v d)).k
 (tamP (3 : Int) (Int.toNat (6 : Int)) (ex k n v d)).n
 (tamP (3 : Int) (Int.toNat (6 : Int)) (ex k n v d)).v
 (dE (tamP (3 : Int) (Int.toNat (6 : Int)) (ex k n v d)).kids)).k
 (ex (tamP (3 : Int) (Int.toNat (6 : Int)) (ex k n v d)).k
 (tamP (3 : Int) (Int.toNat (6 : Int)) (ex k n v d)).n
 (tamP (3 : Int) (Int.toNat (6 : Int)) (ex k n v d)).v
 (dE (tamP (3 : Int) (Int.toNat (6 : Int)) (ex k n v d)).kids)).n
 (ex (tamP (3 : Int) (Int.toNat (6 : Int)) (ex k n v d)).k
 (tamP (3 : Int) (Int.toNat (6 : Int)) (ex k n v d)).n
 (tamP (3 : Int) (Int.toNat (6 : Int)) (ex k n v d)).v
 (dE (tamP (3 : Int) (Int.toNat (6 : Int)) (ex k n v d)).kids)).v
 (dE
 (ex (tamP (3 : Int) (Int.toNat (6 : Int)) (ex k n v d)).k
 (tamP (3 : Int) (Int.toNat (6 : Int)) (ex k n v d)).n
 (tamP (3 : Int) (Int.toNat (6 : Int)) (ex k n v d)).v
 (dE (tamP (3 : Int) (Int.toNat (6 : Int)) (ex k n v d)).kids)).kids))
 ((jnZ (3 : Int) (rowZ (3 : Int) a (3 : Nat)) (rowZ (3 : Int) a (3 : Nat))).fst,
 (jnZ (3 : Int) (rowZ (3 : Int) a (3 : Nat)) (rowZ (3 : Int) a (3 : Nat))).snd)).fst
 (asgZ (3 : Int) (IntKind.i64.wrap ((IntKind.u64.wrap x).tmod (3 : Int)))
 (ex
 (ex (tamP (3 : Int) (Int.toNat (6 : Int)) (ex k n v d)).k
 (tamP (3 : Int) (Int.toNat (6 : Int)) (ex k n v d)).n
 (tamP (3 : Int) (Int.toNat (6 : Int)) (ex k n v d)).v
 (dE (tamP (3 : Int) (Int.toNat (6 : Int)) (ex k n v d)).kids)).k
 (ex (tamP (3 : Int) (Int.toNat (6 : Int)) (ex k n v d)).k
 (tamP (3 : Int) (Int.toNat (6 : Int)) (ex k n v d)).n
 (tamP (3 : Int) (Int.toNat (6 : Int)) (ex k n v d)).v
 (dE (tamP (3 : Int) (Int.toNat (6 : Int)) (ex k n v d)).kids)).n
 (ex (tamP (3 : Int) (Int.toNat (6 : Int)) (ex k n v d)).k
 (tamP (3 : Int) (Int.toNat (6 : Int)) (ex k n v d)).n
 (tamP (3 : Int) (Int.toNat (6 : Int)) (ex k n v d)).v
 (dE (tamP (3 : Int) (Int.toNat (6 : Int)) (ex k n v d)).kids)).v
 (dE
 (ex (tamP (3 : Int) (Int.toNat (6 : Int)) (ex k n v d)).k
 (tamP (3 : Int) (Int.toNat (6 : Int)) (ex k n v d)).n
 (tamP (3 : Int) (Int.toNat (6 : Int)) (ex k n v d)).v
 (dE (tamP (3 : Int) (Int.toNat (6 : Int)) (ex k n v d)).kids)).kids))
 ((jnZ (3 : Int) (rowZ (3 : Int) a (3 : Nat)) (rowZ (3 : Int) a (3 : Nat))).fst,
 (jnZ (3 : Int) (rowZ (3 : Int) a (3 : Nat)) (rowZ (3 : Int) a (3 : Nat))).snd)).snd
 (rowI (3 : Nat)
 (upd (hz a) (IntKind.i64.wrap ((IntKind.u64.wrap x).tmod (3 : Int))).toNat
 (evT (vD ((rowI (3 : Nat) fun (j : Nat) => a j).sub (nat_lit 0) (nat_lit 0 + nat_lit 3)))
 (ex (tamP (3 : Int) (Int.toNat (6 : Int)) (ex k n v d)).k
 (tamP (3 : Int) (Int.toNat (6 : Int)) (ex k n v d)).n
 (tamP (3 : Int) (Int.toNat (6 : Int)) (ex k n v d)).v
 (dE (tamP (3 : Int) (Int.toNat (6 : Int)) (ex k n v d)).kids))).fst)) &&
 withinP (3 : Int)
 (asgZ (3 : Int) (IntKind.i64.wrap ((IntKind.u64.wrap x).tmod (3 : Int)))
 (ex
 (ex (tamP (3 : Int) (Int.toNat (6 : Int)) (ex k n v d)).k
 (tamP (3 : Int) (Int.toNat (6 : Int)) (ex k n v d)).n
 (tamP (3 : Int) (Int.toNat (6 : Int)) (ex k n v d)).v
 (dE (tamP (3 : Int) (Int.toNat (6 : Int)) (ex k n v d)).kids)).k
 (ex (tamP (3 : Int) (Int.toNat (6 : Int)) (ex k n v d)).k
 (tamP (3 : Int) (Int.toNat (6 : Int)) (ex k n v d)).n
 (tamP (3 : Int) (Int.toNat (6 : Int)) (ex k n v d)).v
 (dE (tamP (3 : Int) (Int.toNat (6 : Int)) (ex k n v d)).kids)).n
 (ex (tamP (3 : Int) (Int.toNat (6 : Int)) (ex k n v d)).k
 (tamP (3 : Int) (Int.toNat (6 : Int)) (ex k n v d)).n
 (tamP (3 : Int) (Int.toNat (6 : Int)) (ex k n v d)).v
 (dE (tamP (3 : Int) (Int.toNat (6 : Int)) (ex k n v d)).kids)).v
 (dE
 (ex (tamP (3 : Int) (Int.toNat (6 : Int)) (ex k n v d)).k
 (tamP (3 : Int) (Int.toNat (6 : Int)) (ex k n v d)).n
 (tamP (3 : Int) (Int.toNat (6 : Int)) (ex k n v d)).v
 (dE (tamP (3 : Int) (Int.toNat (6 : Int)) (ex k n v d)).kids)).kids))
 ((jnZ (3 : Int) (rowZ (3 : Int) a (3 : Nat)) (rowZ (3 : Int) a (3 : Nat))).fst,
 (jnZ (3 : Int) (rowZ (3 : Int) a (3 : Nat)) (rowZ (3 : Int) a (3 : Nat))).snd)).fst
 (asgZ (3 : Int) (IntKind.i64.wrap ((IntKind.u64.wrap x).tmod (3 : Int)))
 (ex
 (ex (tamP (3 : Int) (Int.toNat (6 : Int)) (ex k n v d)).k
 (tamP (3 : Int) (Int.toNat (6 : Int)) (ex k n v d)).n
 (tamP (3 : Int) (Int.toNat (6 : Int)) (ex k n v d)).v
 (dE (tamP (3 : Int) (Int.toNat (6 : Int)) (ex k n v d)).kids)).k
 (ex (tamP (3 : Int) (Int.toNat (6 : Int)) (ex k n v d)).k
 (tamP (3 : Int) (Int.toNat (6 : Int)) (ex k n v d)).n
 (tamP (3 : Int) (Int.toNat (6 : Int)) (ex k n v d)).v
 (dE (tamP (3 : Int) (Int.toNat (6 : Int)) (ex k n v d)).kids)).n
 (ex (tamP (3 : Int) (Int.toNat (6 : Int)) (ex k n v d)).k
 (tamP (3 : Int) (Int.toNat (6 : Int)) (ex k n v d)).n
 (tamP (3 : Int) (Int.toNat (6 : Int)) (ex k n v d)).v
 (dE (tamP (3 : Int) (Int.toNat (6 : Int)) (ex k n v d)).kids)).v
 (dE
 (ex (tamP (3 : Int) (Int.toNat (6 : Int)) (ex k n v d)).k
 (tamP (3 : Int) (Int.toNat (6 : Int)) (ex k n v d)).n
 (tamP (3 : Int) (Int.toNat (6 : Int)) (ex k n v d)).v
 (dE (tamP (3 : Int) (Int.toNat (6 : Int)) (ex k n v d)).kids)).kids))
 ((jnZ (3 : Int) (rowZ (3 : Int) a (3 : Nat)) (rowZ (3 : Int) a (3 : Nat))).fst,
 (jnZ (3 : Int) (rowZ (3 : Int) a (3 : Nat)) (rowZ (3 : Int) a (3 : Nat))).snd)).snd
 (↑(rowI (3 : Nat)
 (upd (hz a) (IntKind.i64.wrap ((IntKind.u64.wrap x).tmod (3 : Int))).toNat
 (evT (vD ((rowI (3 : Nat) fun (j : Nat) => a j).sub (nat_lit 0) (nat_lit 0 + nat_lit 3)))
 (ex (tamP (3 : Int) (Int.toNat (6 : Int)) (ex k n v d)).k
 (tamP (3 : Int) (Int.toNat (6 : Int)) (ex k n v d)).n
 (tamP (3 : Int) (Int.toNat (6 : Int)) (ex k n v d)).v
 (dE (tamP (3 : Int) (Int.toNat (6 : Int)) (ex k n v d)).kids))).fst)).len :
 Int)
 (rowZ
 (↑(rowI (3 : Nat)
 (upd (hz a) (IntKind.i64.wrap ((IntKind.u64.wrap x).tmod (3 : Int))).toNat
 (evT (vD ((rowI (3 : Nat) fun (j : Nat) => a j).sub (nat_lit 0) (nat_lit 0 + nat_lit 3)))
 (ex (tamP (3 : Int) (Int.toNat (6 : Int)) (ex k n v d)).k
 (tamP (3 : Int) (Int.toNat (6 : Int)) (ex k n v d)).n
 (tamP (3 : Int) (Int.toNat (6 : Int)) (ex k n v d)).v
 (dE (tamP (3 : Int) (Int.toNat (6 : Int)) (ex k n v d)).kids))).fst)).len :
 Int)
 (fun (j : Nat) =>
 vD
 (rowI (3 : Nat)
 (upd (hz a) (IntKind.i64.wrap ((IntKind.u64.wrap x).tmod (3 : Int))).toNat
 (evT (vD ((rowI (3 : Nat) fun (j : Nat) => a j).sub (nat_lit 0) (nat_lit 0 + nat_lit 3)))
 (ex (tamP (3 : Int) (Int.toNat (6 : Int)) (ex k n v d)).k
 (tamP (3 : Int) (Int.toNat (6 : Int)) (ex k n v d)).n
 (tamP (3 : Int) (Int.toNat (6 : Int)) (ex k n v d)).v
 (dE (tamP (3 : Int) (Int.toNat (6 : Int)) (ex k n v d)).kids))).fst))
 (↑j : Int))
 (rowI (3 : Nat)
 (upd (hz a) (IntKind.i64.wrap ((IntKind.u64.wrap x).tmod (3 : Int))).toNat
 (evT (vD ((rowI (3 : Nat) fun (j : Nat) => a j).sub (nat_lit 0) (nat_lit 0 + nat_lit 3)))
 (ex (tamP (3 : Int) (Int.toNat (6 : Int)) (ex k n v d)).k
 (tamP (3 : Int) (Int.toNat (6 : Int)) (ex k n v d)).n
 (tamP (3 : Int) (Int.toNat (6 : Int)) (ex k n v d)).v
 (dE (tamP (3 : Int) (Int.toNat (6 : Int)) (ex k n v d)).kids))).fst)).len).fst
 (rowZ
 (↑(rowI (3 : Nat)
 (upd (hz a) (IntKind.i64.wrap ((IntKind.u64.wrap x).tmod (3 : Int))).toNat
 (evT (vD ((rowI (3 : Nat) fun (j : Nat) => a j).sub (nat_lit 0) (nat_lit 0 + nat_lit 3)))
 (ex (tamP (3 : Int) (Int.toNat (6 : Int)) (ex k n v d)).k
 (tamP (3 : Int) (Int.toNat (6 : Int)) (ex k n v d)).n
 (tamP (3 : Int) (Int.toNat (6 : Int)) (ex k n v d)).v
 (dE (tamP (3 : Int) (Int.toNat (6 : Int)) (ex k n v d)).kids))).fst)).len :
 Int)
 (fun (j : Nat) =>
 vD
 (rowI (3 : Nat)
 (upd (hz a) (IntKind.i64.wrap ((IntKind.u64.wrap x).tmod (3 : Int))).toNat
 (evT (vD ((rowI (3 : Nat) fun (j : Nat) => a j).sub (nat_lit 0) (nat_lit 0 + nat_lit 3)))
 (ex (tamP (3 : Int) (Int.toNat (6 : Int)) (ex k n v d)).k
 (tamP (3 : Int) (Int.toNat (6 : Int)) (ex k n v d)).n
 (tamP (3 : Int) (Int.toNat (6 : Int)) (ex k n v d)).v
 (dE (tamP (3 : Int) (Int.toNat (6 : Int)) (ex k n v d)).kids))).fst))
 (↑j : Int))
 (rowI (3 : Nat)
 (upd (hz a) (IntKind.i64.wrap ((IntKind.u64.wrap x).tmod (3 : Int))).toNat
 (evT (vD ((rowI (3 : Nat) fun (j : Nat) => a j).sub (nat_lit 0) (nat_lit 0 + nat_lit 3)))
 (ex (tamP (3 : Int) (Int.toNat (6 : Int)) (ex k n v d)).k
 (tamP (3 : Int) (Int.toNat (6 : Int)) (ex k n v d)).n
 (tamP (3 : Int) (Int.toNat (6 : Int)) (ex k n v d)).v
 (dE (tamP (3 : Int) (Int.toNat (6 : Int)) (ex k n v d)).kids))).fst)).len).snd) =
 true ∧
 True →
 (rowI (3 : Nat)
 (upd (hz a) (IntKind.i64.wrap ((IntKind.u64.wrap x).tmod (3 : Int))).toNat
 (evT (vD ((rowI (3 : Nat) fun (j : Nat) => a j).sub (nat_lit 0) (nat_lit 0 + nat_lit 3)))
 (ex (tamP (3 : Int) (Int.toNat (6 : Int)) (ex k n v d)).k
 (tamP (3 : Int) (Int.toNat (6 : Int)) (ex k n v d)).n
 (tamP (3 : Int) (Int.toNat (6 : Int)) (ex k n v d)).v
 (dE (tamP (3 : Int) (Int.toNat (6 : Int)) (ex k n v d)).kids))).fst)).len ≤
 (6 : Nat)) ∧
 ((evaP (Int.toNat (3 : Int)) (3 : Int)
 ((jnZ (3 : Int) (rowZ (3 : Int) a (3 : Nat)) (rowZ (3 : Int) a (3 : Nat))).fst,
 (jnZ (3 : Int) (rowZ (3 : Int) a (3 : Nat)) (rowZ (3 : Int) a (3 : Nat))).snd)
 (ex
 (ex (tamP (3 : Int) (Int.toNat (6 : Int)) (ex k n v d)).k
 (tamP (3 : Int) (Int.toNat (6 : Int)) (ex k n v d)).n
 (tamP (3 : Int) (Int.toNat (6 : Int)) (ex k n v d)).v
 (dE (tamP (3 : Int) (Int.toNat (6 : Int)) (ex k n v d)).kids)).k
 (ex (tamP (3 : Int) (Int.toNat (6 : Int)) (ex k n v d)).k
 (tamP (3 : Int) (Int.toNat (6 : Int)) (ex k n v d)).n
 (tamP (3 : Int) (Int.toNat (6 : Int)) (ex k n v d)).v
 (dE (tamP (3 : Int) (Int.toNat (6 : Int)) (ex k n v d)).kids)).n
 (ex (tamP (3 : Int) (Int.toNat (6 : Int)) (ex k n v d)).k
 (tamP (3 : Int) (Int.toNat (6 : Int)) (ex k n v d)).n
 (tamP (3 : Int) (Int.toNat (6 : Int)) (ex k n v d)).v
 (dE (tamP (3 : Int) (Int.toNat (6 : Int)) (ex k n v d)).kids)).v
 (dE
 (ex (tamP (3 : Int) (Int.toNat (6 : Int)) (ex k n v d)).k
 (tamP (3 : Int) (Int.toNat (6 : Int)) (ex k n v d)).n
 (tamP (3 : Int) (Int.toNat (6 : Int)) (ex k n v d)).v
 (dE (tamP (3 : Int) (Int.toNat (6 : Int)) (ex k n v d)).kids)).kids))).fst.fst ==
 ofLo
 (evT (vD ((rowI (3 : Nat) fun (j : Nat) => a j).sub (nat_lit 0) (nat_lit 0 + nat_lit 3)))
 (ex (tamP (3 : Int) (Int.toNat (6 : Int)) (ex k n v d)).k
 (tamP (3 : Int) (Int.toNat (6 : Int)) (ex k n v d)).n
 (tamP (3 : Int) (Int.toNat (6 : Int)) (ex k n v d)).v
 (dE (tamP (3 : Int) (Int.toNat (6 : Int)) (ex k n v d)).kids))).fst
 (evT (vD ((rowI (3 : Nat) fun (j : Nat) => a j).sub (nat_lit 0) (nat_lit 0 + nat_lit 3)))
 (ex (tamP (3 : Int) (Int.toNat (6 : Int)) (ex k n v d)).k
 (tamP (3 : Int) (Int.toNat (6 : Int)) (ex k n v d)).n
 (tamP (3 : Int) (Int.toNat (6 : Int)) (ex k n v d)).v
 (dE (tamP (3 : Int) (Int.toNat (6 : Int)) (ex k n v d)).kids))).fst &&
 ((evaP (Int.toNat (3 : Int)) (3 : Int)
 ((jnZ (3 : Int) (rowZ (3 : Int) a (3 : Nat)) (rowZ (3 : Int) a (3 : Nat))).fst,
 (jnZ (3 : Int) (rowZ (3 : Int) a (3 : Nat)) (rowZ (3 : Int) a (3 : Nat))).snd)
 (ex
 (ex (tamP (3 : Int) (Int.toNat (6 : Int)) (ex k n v d)).k
 (tamP (3 : Int) (Int.toNat (6 : Int)) (ex k n v d)).n
 (tamP (3 : Int) (Int.toNat (6 : Int)) (ex k n v d)).v
 (dE (tamP (3 : Int) (Int.toNat (6 : Int)) (ex k n v d)).kids)).k
 (ex (tamP (3 : Int) (Int.toNat (6 : Int)) (ex k n v d)).k
 (tamP (3 : Int) (Int.toNat (6 : Int)) (ex k n v d)).n
 (tamP (3 : Int) (Int.toNat (6 : Int)) (ex k n v d)).v
 (dE (tamP (3 : Int) (Int.toNat (6 : Int)) (ex k n v d)).kids)).n
 (ex (tamP (3 : Int) (Int.toNat (6 : Int)) (ex k n v d)).k
 (tamP (3 : Int) (Int.toNat (6 : Int)) (ex k n v d)).n
 (tamP (3 : Int) (Int.toNat (6 : Int)) (ex k n v d)).v
 (dE (tamP (3 : Int) (Int.toNat (6 : Int)) (ex k n v d)).kids)).v
 (dE
 (ex (tamP (3 : Int) (Int.toNat (6 : Int)) (ex k n v d)).k
 (tamP (3 : Int) (Int.toNat (6 : Int)) (ex k n v d)).n
 (tamP (3 : Int) (Int.toNat (6 : Int)) (ex k n v d)).v
 (dE (tamP (3 : Int) (Int.toNat (6 : Int)) (ex k n v d)).kids)).kids))).fst.snd ==
 ofHi
 (evT (vD ((rowI (3 : Nat) fun (j : Nat) => a j).sub (nat_lit 0) (nat_lit 0 + nat_lit 3)))
 (ex (tamP (3 : Int) (Int.toNat (6 : Int)) (ex k n v d)).k
 (tamP (3 : Int) (Int.toNat (6 : Int)) (ex k n v d)).n
 (tamP (3 : Int) (Int.toNat (6 : Int)) (ex k n v d)).v
 (dE (tamP (3 : Int) (Int.toNat (6 : Int)) (ex k n v d)).kids))).fst
 (evT (vD ((rowI (3 : Nat) fun (j : Nat) => a j).sub (nat_lit 0) (nat_lit 0 + nat_lit 3)))
 (ex (tamP (3 : Int) (Int.toNat (6 : Int)) (ex k n v d)).k
 (tamP (3 : Int) (Int.toNat (6 : Int)) (ex k n v d)).n
 (tamP (3 : Int) (Int.toNat (6 : Int)) (ex k n v d)).v
 (dE (tamP (3 : Int) (Int.toNat (6 : Int)) (ex k n v d)).kids))).fst &&
 true) &&
 nhasP
 (asgZ (3 : Int) (IntKind.i64.wrap ((IntKind.u64.wrap x).tmod (3 : Int)))
 (ex
 (ex (tamP (3 : Int) (Int.toNat (6 : Int)) (ex k n v d)).k
 (tamP (3 : Int) (Int.toNat (6 : Int)) (ex k n v d)).n
 (tamP (3 : Int) (Int.toNat (6 : Int)) (ex k n v d)).v
 (dE (tamP (3 : Int) (Int.toNat (6 : Int)) (ex k n v d)).kids)).k
 (ex (tamP (3 : Int) (Int.toNat (6 : Int)) (ex k n v d)).k
 (tamP (3 : Int) (Int.toNat (6 : Int)) (ex k n v d)).n
 (tamP (3 : Int) (Int.toNat (6 : Int)) (ex k n v d)).v
 (dE (tamP (3 : Int) (Int.toNat (6 : Int)) (ex k n v d)).kids)).n
 (ex (tamP (3 : Int) (Int.toNat (6 : Int)) (ex k n v d)).k
 (tamP (3 : Int) (Int.toNat (6 : Int)) (ex k n v d)).n
 (tamP (3 : Int) (Int.toNat (6 : Int)) (ex k n v d)).v
 (dE (tamP (3 : Int) (Int.toNat (6 : Int)) (ex k n v d)).kids)).v
 (dE
 (ex (tamP (3 : Int) (Int.toNat (6 : Int)) (ex k n v d)).k
 (tamP (3 : Int) (Int.toNat (6 : Int)) (ex k n v d)).n
 (tamP (3 : Int) (Int.toNat (6 : Int)) (ex k n v d)).v
 (dE (tamP (3 : Int) (Int.toNat (6 : Int)) (ex k n v d)).kids)).kids))
 ((jnZ (3 : Int) (rowZ (3 : Int) a (3 : Nat)) (rowZ (3 : Int) a (3 : Nat))).fst,
 (jnZ (3 : Int) (rowZ (3 : Int) a (3 : Nat)) (rowZ (3 : Int) a (3 : Nat))).snd)).fst
 (itD (Int.toNat (3 : Int)) (3 : Int)
 (asgZ (3 : Int) (IntKind.i64.wrap ((IntKind.u64.wrap x).tmod (3 : Int)))
 (ex
 (ex (tamP (3 : Int) (Int.toNat (6 : Int)) (ex k n v d)).k
 (tamP (3 : Int) (Int.toNat (6 : Int)) (ex k n v d)).n
 (tamP (3 : Int) (Int.toNat (6 : Int)) (ex k n v d)).v
 (dE (tamP (3 : Int) (Int.toNat (6 : Int)) (ex k n v d)).kids)).k
 (ex (tamP (3 : Int) (Int.toNat (6 : Int)) (ex k n v d)).k
 (tamP (3 : Int) (Int.toNat (6 : Int)) (ex k n v d)).n
 (tamP (3 : Int) (Int.toNat (6 : Int)) (ex k n v d)).v
 (dE (tamP (3 : Int) (Int.toNat (6 : Int)) (ex k n v d)).kids)).n
 (ex (tamP (3 : Int) (Int.toNat (6 : Int)) (ex k n v d)).k
 (tamP (3 : Int) (Int.toNat (6 : Int)) (ex k n v d)).n
 (tamP (3 : Int) (Int.toNat (6 : Int)) (ex k n v d)).v
 (dE (tamP (3 : Int) (Int.toNat (6 : Int)) (ex k n v d)).kids)).v
 (dE
 (ex (tamP (3 : Int) (Int.toNat (6 : Int)) (ex k n v d)).k
 (tamP (3 : Int) (Int.toNat (6 : Int)) (ex k n v d)).n
 (tamP (3 : Int) (Int.toNat (6 : Int)) (ex k n v d)).v
 (dE (tamP (3 : Int) (Int.toNat (6 : Int)) (ex k n v d)).kids)).kids))
 ((jnZ (3 : Int) (rowZ (3 : Int) a (3 : Nat)) (rowZ (3 : Int) a (3 : Nat))).fst,
 (jnZ (3 : Int) (rowZ (3 : Int) a (3 : Nat)) (rowZ (3 : Int) a (3 : Nat))).snd)))
 (3 : Int)
 (asgZ (3 : Int) (IntKind.i64.wrap ((IntKind.u64.wrap x).tmod (3 : Int)))
 (ex
 (ex (tamP (3 : Int) (Int.toNat (6 : Int)) (ex k n v d)).k
 (tamP (3 : Int) (Int.toNat (6 : Int)) (ex k n v d)).n
 (tamP (3 : Int) (Int.toNat (6 : Int)) (ex k n v d)).v
 (dE (tamP (3 : Int) (Int.toNat (6 : Int)) (ex k n v d)).kids)).k
 (ex (tamP (3 : Int) (Int.toNat (6 : Int)) (ex k n v d)).k
 (tamP (3 : Int) (Int.toNat (6 : Int)) (ex k n v d)).n
 (tamP (3 : Int) (Int.toNat (6 : Int)) (ex k n v d)).v
 (dE (tamP (3 : Int) (Int.toNat (6 : Int)) (ex k n v d)).kids)).n
 (ex (tamP (3 : Int) (Int.toNat (6 : Int)) (ex k n v d)).k
 (tamP (3 : Int) (Int.toNat (6 : Int)) (ex k n v d)).n
 (tamP (3 : Int) (Int.toNat (6 : Int)) (ex k n v d)).v
 (dE (tamP (3 : Int) (Int.toNat (6 : Int)) (ex k n v d)).kids)).v
 (dE
 (ex (tamP (3 : Int) (Int.toNat (6 : Int)) (ex k n v d)).k
 (tamP (3 : Int) (Int.toNat (6 : Int)) (ex k n v d)).n
 (tamP (3 : Int) (Int.toNat (6 : Int)) (ex k n v d)).v
 (dE (tamP (3 : Int) (Int.toNat (6 : Int)) (ex k n v d)).kids)).kids))
 ((jnZ (3 : Int) (rowZ (3 : Int) a (3 : Nat)) (rowZ (3 : Int) a (3 : Nat))).fst,
 (jnZ (3 : Int) (rowZ (3 : Int) a (3 : Nat)) (rowZ (3 : Int) a (3 : Nat))).snd)).fst
 (asgZ (3 : Int) (IntKind.i64.wrap ((IntKind.u64.wrap x).tmod (3 : Int)))
 (ex
 (ex (tamP (3 : Int) (Int.toNat (6 : Int)) (ex k n v d)).k
 (tamP (3 : Int) (Int.toNat (6 : Int)) (ex k n v d)).n
 (tamP (3 : Int) (Int.toNat (6 : Int)) (ex k n v d)).v
 (dE (tamP (3 : Int) (Int.toNat (6 : Int)) (ex k n v d)).kids)).k
 (ex (tamP (3 : Int) (Int.toNat (6 : Int)) (ex k n v d)).k
 (tamP (3 : Int) (Int.toNat (6 : Int)) (ex k n v d)).n
 (tamP (3 : Int) (Int.toNat (6 : Int)) (ex k n v d)).v
 (dE (tamP (3 : Int) (Int.toNat (6 : Int)) (ex k n v d)).kids)).n
 (ex (tamP (3 : Int) (Int.toNat (6 : Int)) (ex k n v d)).k
 (tamP (3 : Int) (Int.toNat (6 : Int)) (ex k n v d)).n
 (tamP (3 : Int) (Int.toNat (6 : Int)) (ex k n v d)).v
 (dE (tamP (3 : Int) (Int.toNat (6 : Int)) (ex k n v d)).kids)).v
 (dE
 (ex (tamP (3 : Int) (Int.toNat (6 : Int)) (ex k n v d)).k
 (tamP (3 : Int) (Int.toNat (6 : Int)) (ex k n v d)).n
 (tamP (3 : Int) (Int.toNat (6 : Int)) (ex k n v d)).v
 (dE (tamP (3 : Int) (Int.toNat (6 : Int)) (ex k n v d)).kids)).kids))
 ((jnZ (3 : Int) (rowZ (3 : Int) a (3 : Nat)) (rowZ (3 : Int) a (3 : Nat))).fst,
 (jnZ (3 : Int) (rowZ (3 : Int) a (3 : Nat)) (rowZ (3 : Int) a (3 : Nat))).snd)).snd
 (rowI (3 : Nat)
 (upd (hz a) (IntKind.i64.wrap ((IntKind.u64.wrap x).tmod (3 : Int))).toNat
 (evT (vD ((rowI (3 : Nat) fun (j : Nat) => a j).sub (nat_lit 0) (nat_lit 0 + nat_lit 3)))
 (ex (tamP (3 : Int) (Int.toNat (6 : Int)) (ex k n v d)).k
 (tamP (3 : Int) (Int.toNat (6 : Int)) (ex k n v d)).n
 (tamP (3 : Int) (Int.toNat (6 : Int)) (ex k n v d)).v
 (dE (tamP (3 : Int) (Int.toNat (6 : Int)) (ex k n v d)).kids))).fst)) &&
 withinP (3 : Int)
 (asgZ (3 : Int) (IntKind.i64.wrap ((IntKind.u64.wrap x).tmod (3 : Int)))
 (ex
 (ex (tamP (3 : Int) (Int.toNat (6 : Int)) (ex k n v d)).k
 (tamP (3 : Int) (Int.toNat (6 : Int)) (ex k n v d)).n
 (tamP (3 : Int) (Int.toNat (6 : Int)) (ex k n v d)).v
 (dE (tamP (3 : Int) (Int.toNat (6 : Int)) (ex k n v d)).kids)).k
 (ex (tamP (3 : Int) (Int.toNat (6 : Int)) (ex k n v d)).k
 (tamP (3 : Int) (Int.toNat (6 : Int)) (ex k n v d)).n
 (tamP (3 : Int) (Int.toNat (6 : Int)) (ex k n v d)).v
 (dE (tamP (3 : Int) (Int.toNat (6 : Int)) (ex k n v d)).kids)).n
 (ex (tamP (3 : Int) (Int.toNat (6 : Int)) (ex k n v d)).k
 (tamP (3 : Int) (Int.toNat (6 : Int)) (ex k n v d)).n
 (tamP (3 : Int) (Int.toNat (6 : Int)) (ex k n v d)).v
 (dE (tamP (3 : Int) (Int.toNat (6 : Int)) (ex k n v d)).kids)).v
 (dE
 (ex (tamP (3 : Int) (Int.toNat (6 : Int)) (ex k n v d)).k
 (tamP (3 : Int) (Int.toNat (6 : Int)) (ex k n v d)).n
 (tamP (3 : Int) (Int.toNat (6 : Int)) (ex k n v d)).v
 (dE (tamP (3 : Int) (Int.toNat (6 : Int)) (ex k n v d)).kids)).kids))
 ((jnZ (3 : Int) (rowZ (3 : Int) a (3 : Nat)) (rowZ (3 : Int) a (3 : Nat))).fst,
 (jnZ (3 : Int) (rowZ (3 : Int) a (3 : Nat)) (rowZ (3 : Int) a (3 : Nat))).snd)).fst
 (asgZ (3 : Int) (IntKind.i64.wrap ((IntKind.u64.wrap x).tmod (3 : Int)))
 (ex
 (ex (tamP (3 : Int) (Int.toNat (6 : Int)) (ex k n v d)).k
 (tamP (3 : Int) (Int.toNat (6 : Int)) (ex k n v d)).n
 (tamP (3 : Int) (Int.toNat (6 : Int)) (ex k n v d)).v
 (dE (tamP (3 : Int) (Int.toNat (6 : Int)) (ex k n v d)).kids)).k
 (ex (tamP (3 : Int) (Int.toNat (6 : Int)) (ex k n v d)).k
 (tamP (3 : Int) (Int.toNat (6 : Int)) (ex k n v d)).n
 (tamP (3 : Int) (Int.toNat (6 : Int)) (ex k n v d)).v
 (dE (tamP (3 : Int) (Int.toNat (6 : Int)) (ex k n v d)).kids)).n
 (ex (tamP (3 : Int) (Int.toNat (6 : Int)) (ex k n v d)).k
 (tamP (3 : Int) (Int.toNat (6 : Int)) (ex k n v d)).n
 (tamP (3 : Int) (Int.toNat (6 : Int)) (ex k n v d)).v
 (dE (tamP (3 : Int) (Int.toNat (6 : Int)) (ex k n v d)).kids)).v
 (dE
 (ex (tamP (3 : Int) (Int.toNat (6 : Int)) (ex k n v d)).k
 (tamP (3 : Int) (Int.toNat (6 : Int)) (ex k n v d)).n
 (tamP (3 : Int) (Int.toNat (6 : Int)) (ex k n v d)).v
 (dE (tamP (3 : Int) (Int.toNat (6 : Int)) (ex k n v d)).kids)).kids))
 ((jnZ (3 : Int) (rowZ (3 : Int) a (3 : Nat)) (rowZ (3 : Int) a (3 : Nat))).fst,
 (jnZ (3 : Int) (rowZ (3 : Int) a (3 : Nat)) (rowZ (3 : Int) a (3 : Nat))).snd)).snd
 (↑(rowI (3 : Nat)
 (upd (hz a) (IntKind.i64.wrap ((IntKind.u64.wrap x).tmod (3 : Int))).toNat
 (evT (vD ((rowI (3 : Nat) fun (j : Nat) => a j).sub (nat_lit 0) (nat_lit 0 + nat_lit 3)))
 (ex (tamP (3 : Int) (Int.toNat (6 : Int)) (ex k n v d)).k
 (tamP (3 : Int) (Int.toNat (6 : Int)) (ex k n v d)).n
 (tamP (3 : Int) (Int.toNat (6 : Int)) (ex k n v d)).v
 (dE (tamP (3 : Int) (Int.toNat (6 : Int)) (ex k n v d)).kids))).fst)).len :
 Int)
 (rowZ
 (↑(rowI (3 : Nat)
 (upd (hz a) (IntKind.i64.wrap ((IntKind.u64.wrap x).tmod (3 : Int))).toNat
 (evT (vD ((rowI (3 : Nat) fun (j : Nat) => a j).sub (nat_lit 0) (nat_lit 0 + nat_lit 3)))
 (ex (tamP (3 : Int) (Int.toNat (6 : Int)) (ex k n v d)).k
 (tamP (3 : Int) (Int.toNat (6 : Int)) (ex k n v d)).n
 (tamP (3 : Int) (Int.toNat (6 : Int)) (ex k n v d)).v
 (dE (tamP (3 : Int) (Int.toNat (6 : Int)) (ex k n v d)).kids))).fst)).len :
 Int)
 (fun (j : Nat) =>
 vD
 (rowI (3 : Nat)
 (upd (hz a) (IntKind.i64.wrap ((IntKind.u64.wrap x).tmod (3 : Int))).toNat
 (evT (vD ((rowI (3 : Nat) fun (j : Nat) => a j).sub (nat_lit 0) (nat_lit 0 + nat_lit 3)))
 (ex (tamP (3 : Int) (Int.toNat (6 : Int)) (ex k n v d)).k
 (tamP (3 : Int) (Int.toNat (6 : Int)) (ex k n v d)).n
 (tamP (3 : Int) (Int.toNat (6 : Int)) (ex k n v d)).v
 (dE (tamP (3 : Int) (Int.toNat (6 : Int)) (ex k n v d)).kids))).fst))
 (↑j : Int))
 (rowI (3 : Nat)
 (upd (hz a) (IntKind.i64.wrap ((IntKind.u64.wrap x).tmod (3 : Int))).toNat
 (evT (vD ((rowI (3 : Nat) fun (j : Nat) => a j).sub (nat_lit 0) (nat_lit 0 + nat_lit 3)))
 (ex (tamP (3 : Int) (Int.toNat (6 : Int)) (ex k n v d)).k
 (tamP (3 : Int) (Int.toNat (6 : Int)) (ex k n v d)).n
 (tamP (3 : Int) (Int.toNat (6 : Int)) (ex k n v d)).v
 (dE (tamP (3 : Int) (Int.toNat (6 : Int)) (ex k n v d)).kids))).fst)).len).fst
 (rowZ
 (↑(rowI (3 : Nat)
 (upd (hz a) (IntKind.i64.wrap ((IntKind.u64.wrap x).tmod (3 : Int))).toNat
 (evT (vD ((rowI (3 : Nat) fun (j : Nat) => a j).sub (nat_lit 0) (nat_lit 0 + nat_lit 3)))
 (ex (tamP (3 : Int) (Int.toNat (6 : Int)) (ex k n v d)).k
 (tamP (3 : Int) (Int.toNat (6 : Int)) (ex k n v d)).n
 (tamP (3 : Int) (Int.toNat (6 : Int)) (ex k n v d)).v
 (dE (tamP (3 : Int) (Int.toNat (6 : Int)) (ex k n v d)).kids))).fst)).len :
 Int)
 (fun (j : Nat) =>
 vD
 (rowI (3 : Nat)
 (upd (hz a) (IntKind.i64.wrap ((IntKind.u64.wrap x).tmod (3 : Int))).toNat
 (evT (vD ((rowI (3 : Nat) fun (j : Nat) => a j).sub (nat_lit 0) (nat_lit 0 + nat_lit 3)))
 (ex (tamP (3 : Int) (Int.toNat (6 : Int)) (ex k n v d)).k
 (tamP (3 : Int) (Int.toNat (6 : Int)) (ex k n v d)).n
 (tamP (3 : Int) (Int.toNat (6 : Int)) (ex k n v d)).v
 (dE (tamP (3 : Int) (Int.toNat (6 : Int)) (ex k n v d)).kids))).fst))
 (↑j : Int))
 (rowI (3 : Nat)
 (upd (hz a) (IntKind.i64.wrap ((IntKind.u64.wrap x).tmod (3 : Int))).toNat
 (evT (vD ((rowI (3 : Nat) fun (j : Nat) => a j).sub (nat_lit 0) (nat_lit 0 + nat_lit 3)))
 (ex (tamP (3 : Int) (Int.toNat (6 : Int)) (ex k n v d)).k
 (tamP (3 : Int) (Int.toNat (6 : Int)) (ex k n v d)).n
 (tamP (3 : Int) (Int.toNat (6 : Int)) (ex k n v d)).v
 (dE (tamP (3 : Int) (Int.toNat (6 : Int)) (ex k n v d)).kids))).fst)).len).snd &&
 withinP
 (↑(rowI (3 : Nat)
 (upd (hz a) (IntKind.i64.wrap ((IntKind.u64.wrap x).tmod (3 : Int))).toNat
 (evT (vD ((rowI (3 : Nat) fun (j : Nat) => a j).sub (nat_lit 0) (nat_lit 0 + nat_lit 3)))
 (ex (tamP (3 : Int) (Int.toNat (6 : Int)) (ex k n v d)).k
 (tamP (3 : Int) (Int.toNat (6 : Int)) (ex k n v d)).n
 (tamP (3 : Int) (Int.toNat (6 : Int)) (ex k n v d)).v
 (dE (tamP (3 : Int) (Int.toNat (6 : Int)) (ex k n v d)).kids))).fst)).len :
 Int)
 (rowZ
 (↑(rowI (3 : Nat)
 (upd (hz a) (IntKind.i64.wrap ((IntKind.u64.wrap x).tmod (3 : Int))).toNat
 (evT (vD ((rowI (3 : Nat) fun (j : Nat) => a j).sub (nat_lit 0) (nat_lit 0 + nat_lit 3)))
 (ex (tamP (3 : Int) (Int.toNat (6 : Int)) (ex k n v d)).k
 (tamP (3 : Int) (Int.toNat (6 : Int)) (ex k n v d)).n
 (tamP (3 : Int) (Int.toNat (6 : Int)) (ex k n v d)).v
 (dE (tamP (3 : Int) (Int.toNat (6 : Int)) (ex k n v d)).kids))).fst)).len :
 Int)
 (fun (j : Nat) =>
 vD
 (rowI (3 : Nat)
 (upd (hz a) (IntKind.i64.wrap ((IntKind.u64.wrap x).tmod (3 : Int))).toNat
 (evT (vD ((rowI (3 : Nat) fun (j : Nat) => a j).sub (nat_lit 0) (nat_lit 0 + nat_lit 3)))
 (ex (tamP (3 : Int) (Int.toNat (6 : Int)) (ex k n v d)).k
 (tamP (3 : Int) (Int.toNat (6 : Int)) (ex k n v d)).n
 (tamP (3 : Int) (Int.toNat (6 : Int)) (ex k n v d)).v
 (dE (tamP (3 : Int) (Int.toNat (6 : Int)) (ex k n v d)).kids))).fst))
 (↑j : Int))
 (rowI (3 : Nat)
 (upd (hz a) (IntKind.i64.wrap ((IntKind.u64.wrap x).tmod (3 : Int))).toNat
 (evT (vD ((rowI (3 : Nat) fun (j : Nat) => a j).sub (nat_lit 0) (nat_lit 0 + nat_lit 3)))
 (ex (tamP (3 : Int) (Int.toNat (6 : Int)) (ex k n v d)).k
 (tamP (3 : Int) (Int.toNat (6 : Int)) (ex k n v d)).n
 (tamP (3 : Int) (Int.toNat (6 : Int)) (ex k n v d)).v
 (dE (tamP (3 : Int) (Int.toNat (6 : Int)) (ex k n v d)).kids))).fst)).len).fst
 (rowZ
 (↑(rowI (3 : Nat)
 (upd (hz a) (IntKind.i64.wrap ((IntKind.u64.wrap x).tmod (3 : Int))).toNat
 (evT (vD ((rowI (3 : Nat) fun (j : Nat) => a j).sub (nat_lit 0) (nat_lit 0 + nat_lit 3)))
 (ex (tamP (3 : Int) (Int.toNat (6 : Int)) (ex k n v d)).k
 (tamP (3 : Int) (Int.toNat (6 : Int)) (ex k n v d)).n
 (tamP (3 : Int) (Int.toNat (6 : Int)) (ex k n v d)).v
 (dE (tamP (3 : Int) (Int.toNat (6 : Int)) (ex k n v d)).kids))).fst)).len :
 Int)
 (fun (j : Nat) =>
 vD
 (rowI (3 : Nat)
 (upd (hz a) (IntKind.i64.wrap ((IntKind.u64.wrap x).tmod (3 : Int))).toNat
 (evT (vD ((rowI (3 : Nat) fun (j : Nat) => a j).sub (nat_lit 0) (nat_lit 0 + nat_lit 3)))
 (ex (tamP (3 : Int) (Int.toNat (6 : Int)) (ex k n v d)).k
 (tamP (3 : Int) (Int.toNat (6 : Int)) (ex k n v d)).n
 (tamP (3 : Int) (Int.toNat (6 : Int)) (ex k n v d)).v
 (dE (tamP (3 : Int) (Int.toNat (6 : Int)) (ex k n v d)).kids))).fst))
 (↑j : Int))
 (rowI (3 : Nat)
 (upd (hz a) (IntKind.i64.wrap ((IntKind.u64.wrap x).tmod (3 : Int))).toNat
 (evT (vD ((rowI (3 : Nat) fun (j : Nat) => a j).sub (nat_lit 0) (nat_lit 0 + nat_lit 3)))
 (ex (tamP (3 : Int) (Int.toNat (6 : Int)) (ex k n v d)).k
 (tamP (3 : Int) (Int.toNat (6 : Int)) (ex k n v d)).n
 (tamP (3 : Int) (Int.toNat (6 : Int)) (ex k n v d)).v
 (dE (tamP (3 : Int) (Int.toNat (6 : Int)) (ex k n v d)).kids))).fst)).len).snd
 (3 : Int)
 (asgZ (3 : Int) (IntKind.i64.wrap ((IntKind.u64.wrap x).tmod (3 : Int)))
 (ex
 (ex (tamP (3 : Int) (Int.toNat (6 : Int)) (ex k n v d)).k
 (tamP (3 : Int) (Int.toNat (6 : Int)) (ex k n v d)).n
 (tamP (3 : Int) (Int.toNat (6 : Int)) (ex k n v d)).v
 (dE (tamP (3 : Int) (Int.toNat (6 : Int)) (ex k n v d)).kids)).k
 (ex (tamP (3 : Int) (Int.toNat (6 : Int)) (ex k n v d)).k
 (tamP (3 : Int) (Int.toNat (6 : Int)) (ex k n v d)).n
 (tamP (3 : Int) (Int.toNat (6 : Int)) (ex k n v d)).v
 (dE (tamP (3 : Int) (Int.toNat (6 : Int)) (ex k n v d)).kids)).n
 (ex (tamP (3 : Int) (Int.toNat (6 : Int)) (ex k n v d)).k
 (tamP (3 : Int) (Int.toNat (6 : Int)) (ex k n v d)).n
 (tamP (3 : Int) (Int.toNat (6 : Int)) (ex k n v d)).v
 (dE (tamP (3 : Int) (Int.toNat (6 : Int)) (ex k n v d)).kids)).v
 (dE
 (ex (tamP (3 : Int) (Int.toNat (6 : Int)) (ex k n v d)).k
 (tamP (3 : Int) (Int.toNat (6 : Int)) (ex k n v d)).n
 (tamP (3 : Int) (Int.toNat (6 : Int)) (ex k n v d)).v
 (dE (tamP (3 : Int) (Int.toNat (6 : Int)) (ex k n v d)).kids)).kids))
 ((jnZ (3 : Int) (rowZ (3 : Int) a (3 : Nat)) (rowZ (3 : Int) a (3 : Nat))).fst,
 (jnZ (3 : Int) (rowZ (3 : Int) a (3 : Nat)) (rowZ (3 : Int) a (3 : Nat))).snd)).fst
 (asgZ (3 : Int) (IntKind.i64.wrap ((IntKind.u64.wrap x).tmod (3 : Int)))
 (ex
 (ex (tamP (3 : Int) (Int.toNat (6 : Int)) (ex k n v d)).k
 (tamP (3 : Int) (Int.toNat (6 : Int)) (ex k n v d)).n
 (tamP (3 : Int) (Int.toNat (6 : Int)) (ex k n v d)).v
 (dE (tamP (3 : Int) (Int.toNat (6 : Int)) (ex k n v d)).kids)).k
 (ex (tamP (3 : Int) (Int.toNat (6 : Int)) (ex k n v d)).k
 (tamP (3 : Int) (Int.toNat (6 : Int)) (ex k n v d)).n
 (tamP (3 : Int) (Int.toNat (6 : Int)) (ex k n v d)).v
 (dE (tamP (3 : Int) (Int.toNat (6 : Int)) (ex k n v d)).kids)).n
 (ex (tamP (3 : Int) (Int.toNat (6 : Int)) (ex k n v d)).k
 (tamP (3 : Int) (Int.toNat (6 : Int)) (ex k n v d)).n
 (tamP (3 : Int) (Int.toNat (6 : Int)) (ex k n v d)).v
 (dE (tamP (3 : Int) (Int.toNat (6 : Int)) (ex k n v d)).kids)).v
 (dE
 (ex (tamP (3 : Int) (Int.toNat (6 : Int)) (ex k n v d)).k
 (tamP (3 : Int) (Int.toNat (6 : Int)) (ex k n v d)).n
 (tamP (3 : Int) (Int.toNat (6 : Int)) (ex k n v d)).v
 (dE (tamP (3 : Int) (Int.toNat (6 : Int)) (ex k n v d)).kids)).kids))
 ((jnZ (3 : Int) (rowZ (3 : Int) a (3 : Nat)) (rowZ (3 : Int) a (3 : Nat))).fst,
 (jnZ (3 : Int) (rowZ (3 : Int) a (3 : Nat)) (rowZ (3 : Int) a (3 : Nat))).snd)).snd) =
 true))) (by kernel_rfl) ?_
    intro hab
    simp only [ex_of]
    have t := tam_tm (w := 3) (by omega) (Int.toNat 6) (ex k n v d)
    have hT := tm_small t
    have sz := one_row hab
    have hI : InV 3 (gI (hz a)) := hz_in fun j hj => hab j hj
    have hX := modU3 x
    have hl : (rowI 3 (fun j => a j)).len = 3 := rfl
    have hl2 : (rowI 3 (hz a)).len = 3 := rfl
    simp only [row_sub, vD_row, hl, hl2]
    have hh : ∀ j, j < 3 → -2147483648 ≤ hz a j ∧ hz a j ≤ 2147483647 := fun j hj => by unfold hz; rw [if_pos hj]; exact hab j hj
    generalize jnZ 3 (rowZ 3 a 3) (rowZ 3 a 3) = z at *
    generalize tamP 3 (Int.toNat 6) (ex k n v d) = e at *
    generalize IntKind.i64.wrap ((IntKind.u64.wrap x).tmod 3) = X at *
    have al := eva_alone sz.1 (by omega) hI t sz
    have ap := asg_sg sz.1 (by omega) hI t sz hX
    have ga := good_asg (x := X) (e := e) sz.1
    have er : evaP (Int.toNat 3) 3 (z.1, z.2) e = recP (itD (Int.toNat 3) 3 z) e := by unfold evaP; rw [if_neg (by rw [sz.2.1.1]; simp)]
    have en := ev_in hI t
    have ea : asgZ 3 X e (z.1, z.2) = asgR 3 X (linP e) (evaP (Int.toNat 3) 3 (z.1, z.2) e).1 z := rfl
    have ey : asgZ 3 X e z = asgZ 3 X e (z.1, z.2) := rfl
    rw [er, al] at ea
    simp only [er, al]
    rw [ey] at ap ga
    generalize asgZ 3 X e (z.1, z.2) = y at *
    generalize evT (gI (hz a)) e = s at *
    have hk : X.toNat < 3 := by omega
    refine ⟨by omega, by omega, fun j hj => ⟨hab j hj, hab j hj⟩, Nat.le_refl _, t, hI, hT, numOK_of sz.1, hT, numOK_of sz.1, fun q => ?_, fun _ => ⟨fun q => ?_, fun q => ⟨?_, fun _ _ => ?_⟩⟩⟩
    · exfalso
      have a1 : (alone s).2.1 = (s.2 == 2) := by unfold alone; by_cases h : s.2 = 2 <;> simp [h]
      have a2 : (alone s).2.2 = (s.2 == 3) := by unfold alone; by_cases h : s.2 = 3 <;> simp [h]
      rw [a1, a2] at q
      simp at q
    · have q : s.2 ≠ 0 := by simpa using q
      have a1 : (alone s).1 = (1, 0) := by unfold alone; rw [if_neg q]
      rw [a1] at ea ⊢
      have : asgR 3 X (linP e) (1, 0) z = (true, fun _ => 0) := if_pos (by decide)
      rw [this] at ea
      rw [ea]; rfl
    · have ul := row_ulen a X.toNat hk s.1
      have uu := row_upd a X.toNat hk s.1
      refine ⟨⟨hX.1, hX.2⟩, hk, true, trivial, ul, ul, ul, ul, uu, ?_⟩
      (repeat' apply And.intro) <;> first | trivial | exact fun _ _ => trivial
    · have q : s.2 = 0 := by simpa using q
      have a1 : (alone s).1 = (s.1, s.1) := by unfold alone; rw [if_pos q]
      have o := of_cc (c := s.1) (by omega)
      have hv : upd (vz (hz a)) (X + 1).toNat s.1 = vz (upd (hz a) X.toNat s.1) := by
        rw [vz_upd _ (by omega)]
        congr 2; omega
      have sy := ap q
      rw [hv] at sy
      have hu : ∀ i : Nat, (i : Int) < 3 → -2147483648 ≤ upd (hz a) X.toNat s.1 i ∧ upd (hz a) X.toNat s.1 i ≤ 2147483647 := fun i hi => by
        unfold upd
        split
        · exact en.2.2
        · exact hh i (by omega)
      have sw := row_all (n := 3) (by omega) hu
      have nh := nhas_pt sy.1 sy.2.1 (v := rowI 3 (upd (hz a) X.toNat s.1)) rfl
      have e3 : (rowI 3 (upd (hz a) X.toNat s.1)).len = 3 := rfl
      have e33 : Int.toNat 3 = 3 := rfl
      have i1 := sg_within sy sw
      have i2 := sg_within sw sy
      simp only [e3, e33, a1, o.1, o.2, itD_len] at nh ⊢
      simp only [e33] at i1 i2
      refine ⟨fun _ => by omega, fun _ => by omega, fun _ => by omega, ?_⟩
      simp only [beq_self_eq_true, Bool.and_self, Bool.true_and, nh]
      rw [Bool.and_eq_true]
      exact ⟨i1, i2⟩
  · trivial
end Go.Proofs.Ytbcbcambkjhhhaa.Sx.Z
