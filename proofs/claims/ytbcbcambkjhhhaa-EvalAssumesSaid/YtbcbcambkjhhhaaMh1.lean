/-
  EvalAssumes' contract.
-/
import Derived.Test.YtbcbcambkjhhhaaProg
import Derived.Test.YtbcbcambkjhhhaaChecked
import Derived.Laws.Bits64
import Derived.ChangeArms
import Derived.OpenShut
import Derived.WideShapes
import Derived.ChangeShapes
import Derived.Carry
import Derived.DataReads
import Derived.KernelRfl
import Derived.Deep.LoopGhost
import Derived.Laws.Append
import Derived.Laws.AppendOwn
import Derived.Laws.MakeOwn
import Derived.Laws.StructEq
import Derived.Laws.Cells
import Derived.Laws.CopyRow
import Derived.Laws.Rows
import Derived.Below
import Derived.Orders
import Derived.ChangeKeysEq
import Derived.IntWalk
import Derived.Deep.CutRange
import Derived.WalkKit
import Derived.ProofKit
import Derived.Handy
import Derived.Lib.Hide
import Derived.Deep.WholeRow
import Derived.Deep.Cut
import Derived.Deep.RegionHeld3
import Derived.RegionTactic
import Derived.Test.YtbcbcambkjhhhaaMA
import Derived.Test.YtbcbcambkjhhhaaMB
import Derived.Test.YtbcbcambkjhhhaaMC
import Derived.Test.YtbcbcambkjhhhaaMD
import Derived.Test.YtbcbcambkjhhhaaME
import Derived.Test.YtbcbcambkjhhhaaMF
import Derived.Test.YtbcbcambkjhhhaaMG
import Derived.Test.YtbcbcambkjhhhaaMH
import Derived.Test.YtbcbcambkjhhhaaMI
import Derived.Test.YtbcbcambkjhhhaaMJ
import Derived.Test.YtbcbcambkjhhhaaMK
import Derived.Test.YtbcbcambkjhhhaaML
import Derived.Test.YtbcbcambkjhhhaaMM
import Derived.Test.YtbcbcambkjhhhaaMj1
import Derived.Test.YtbcbcambkjhhhaaMN
import Derived.Test.YtbcbcambkjhhhaaMO
import Derived.Test.YtbcbcambkjhhhaaMP
import Derived.Test.YtbcbcambkjhhhaaMQ
import Derived.Test.YtbcbcambkjhhhaaMW
import Derived.Test.YtbcbcambkjhhhaaMX
import Derived.Test.YtbcbcambkjhhhaaMY
import Derived.Test.YtbcbcambkjhhhaaMZ
import Derived.Test.YtbcbcambkjhhhaaMa1
import Derived.Test.YtbcbcambkjhhhaaMb1
import Derived.Test.YtbcbcambkjhhhaaMc1
import Derived.Test.YtbcbcambkjhhhaaMd1
import Derived.Test.YtbcbcambkjhhhaaMf1
namespace Go.Proofs.Ytbcbcambkjhhhaa.Sx.Z
open Go.RowKit
noncomputable def eassumesS : FSpec := fun ds _ => match ds with
  | [.i _k, .i _n, .i _v, .d _d, .i _k2, .i _n2, .i _v2, .d _d2, .f a, .f b, .b _c] => some { val := .one (.sc (.bool (.sym (true)))), vc := [∀ j, j < 3 → (-2147483648 ≤ a j ∧ a j ≤ 2147483647) ∧ (-2147483648 ≤ b j ∧ b j ≤ 2147483647)] }
  | _ => none
noncomputable def eassumesC : Con := con [rxpA, rxpA, .agg [.ints .i32 3, .ints .i32 3, .c .bool]] eassumesS
theorem eassumes_ok : ConOK Try.prog 9 eassumesC := by
  refine fn_ob tt_ok mixed Try.func9 rfl (fun _ _ => by kernel_rfl) (A := fun ds => ⟨fun _ => Cons.of [(36, tameC), (40, nrowsC), (19, rholdsC), (15, copyXC), (49, assumeC), (39, reckonsC), (43, nhasC), (44, nrightC), (48, nrowC), (47, nwithinC)], fun k => match k, ds with | 4, [.i k, .i n, .i v, .d d, .i k2, .i n2, .i v2, .d d2, .f a, .f b, .b c] => some { ι := Int, pre := fun _ q => 1 ≤ q ∧ q ≤ 7, μ := fun q => (9 - q).toNat, st := fun s q => famR s [(8, .one (.sc (.rows 3 (rowI 3 (hz fun j => if c = true then b j else a j))))), (9, .one (.sc (.int .i64 (.sym (q)))))] [3, 4, 7] [(idOf s 8, .gone)] [3, 4, 7] } | _, _ => none, fun _ => none⟩) (fun _ _ => (cons_cons tame_ok (cons_cons nrows_ok (cons_cons rholds_ok (cons_cons copyX_ok (cons_cons assume_ok (cons_cons reckons_ok (cons_cons nhas_ok (cons_cons nright_ok (cons_cons nrow_ok (cons_cons nwithin_ok cons_nil))))))))))) (by kernel_rfl) ?_
  intro ds fr
  unfold eassumesS
  split
  · rename_i k n v d k2 n2 v2 d2 a b c
    refine kmp (q := (∀ (j : Nat), j < (3 : Nat) → ((-2147483648 : Int) ≤ a j ∧ a j ≤ (2147483647 : Int)) ∧ (-2147483648 : Int) ≤ b j ∧ b j ≤ (2147483647 : Int)) →
 ((0 : Int) ≤ (4 : Int) ∧ (4 : Int) ≤ (100 : Int)) ∧
 ((1 : Int) ≤ (3 : Int) ∧ (3 : Int) ≤ (6 : Int)) ∧
 ((0 : Int) ≤ (4 : Int) ∧ (4 : Int) ≤ (100 : Int)) ∧
 ((1 : Int) ≤ (3 : Int) ∧ (3 : Int) ≤ (6 : Int)) ∧
 (∀ (j : Nat), j < (3 : Nat) → ((-2147483648 : Int) ≤ a j ∧ a j ≤ (2147483647 : Int)) ∧ (-2147483648 : Int) ≤ b j ∧ b j ≤ (2147483647 : Int)) ∧
 (∃ (i : Int),
 ((1 : Int) ≤ i ∧ i ≤ (7 : Int)) ∧
 nat_lit 0 + nat_lit 3 ≤ (rowI (3 : Nat) fun (j : Nat) => if c = true then b j else a j).len ∧
 nat_lit 0 + nat_lit 3 ≤ (rowI (3 : Nat) fun (j : Nat) => if c = true then b j else a j).len ∧
 List.drop (nat_lit 0)
 (List.take (nat_lit 0 + nat_lit 3) (List.map (fun (j : Nat) => [D.i (if c = true then b j else a j)]) (List.range (3 : Nat)))) =
 List.map (fun (j : Nat) => [D.i (hz (fun (j : Nat) => if c = true then b j else a j) j)]) (List.range (3 : Nat)) ∧
 (1 : Int) = i ∧
 (tamP (3 : Int) (Int.toNat (4 : Int)) (ex k n v d)).k = (tamP (3 : Int) (Int.toNat (4 : Int)) (ex k n v d)).k ∧
 (tamP (3 : Int) (Int.toNat (4 : Int)) (ex k n v d)).n = (tamP (3 : Int) (Int.toNat (4 : Int)) (ex k n v d)).n ∧
 (tamP (3 : Int) (Int.toNat (4 : Int)) (ex k n v d)).v = (tamP (3 : Int) (Int.toNat (4 : Int)) (ex k n v d)).v ∧
 List.map encE (tamP (3 : Int) (Int.toNat (4 : Int)) (ex k n v d)).kids =
 List.map encE (tamP (3 : Int) (Int.toNat (4 : Int)) (ex k n v d)).kids ∧
 (tamP (3 : Int) (Int.toNat (4 : Int)) (ex k2 n2 v2 d2)).k = (tamP (3 : Int) (Int.toNat (4 : Int)) (ex k2 n2 v2 d2)).k ∧
 (tamP (3 : Int) (Int.toNat (4 : Int)) (ex k2 n2 v2 d2)).n = (tamP (3 : Int) (Int.toNat (4 : Int)) (ex k2 n2 v2 d2)).n ∧
 (tamP (3 : Int) (Int.toNat (4 : Int)) (ex k2 n2 v2 d2)).v = (tamP (3 : Int) (Int.toNat (4 : Int)) (ex k2 n2 v2 d2)).v ∧
 List.map encE (tamP (3 : Int) (Int.toNat (4 : Int)) (ex k2 n2 v2 d2)).kids =
 List.map encE (tamP (3 : Int) (Int.toNat (4 : Int)) (ex k2 n2 v2 d2)).kids ∧
 (jnZ (3 : Int) (rowZ (3 : Int) a (3 : Nat)) (rowZ (3 : Int) b (3 : Nat))).fst =
 (jnZ (3 : Int) (rowZ (3 : Int) a (3 : Nat)) (rowZ (3 : Int) b (3 : Nat))).fst ∧
 List.map
 (fun (j : Nat) =>
 [D.i
 (itvLo (3 : Int) (jnZ (3 : Int) (rowZ (3 : Int) a (3 : Nat)) (rowZ (3 : Int) b (3 : Nat))).fst
 (jnZ (3 : Int) (rowZ (3 : Int) a (3 : Nat)) (rowZ (3 : Int) b (3 : Nat))).snd (↑j : Int)),
 D.i
 (itvHi (3 : Int) (jnZ (3 : Int) (rowZ (3 : Int) a (3 : Nat)) (rowZ (3 : Int) b (3 : Nat))).fst
 (jnZ (3 : Int) (rowZ (3 : Int) a (3 : Nat)) (rowZ (3 : Int) b (3 : Nat))).snd (↑j : Int))])
 (List.range (3 : Nat)) =
 List.map
 (fun (j : Nat) =>
 [D.i
 (itvLo (3 : Int) (jnZ (3 : Int) (rowZ (3 : Int) a (3 : Nat)) (rowZ (3 : Int) b (3 : Nat))).fst
 (jnZ (3 : Int) (rowZ (3 : Int) a (3 : Nat)) (rowZ (3 : Int) b (3 : Nat))).snd (↑j : Int)),
 D.i
 (itvHi (3 : Int) (jnZ (3 : Int) (rowZ (3 : Int) a (3 : Nat)) (rowZ (3 : Int) b (3 : Nat))).fst
 (jnZ (3 : Int) (rowZ (3 : Int) a (3 : Nat)) (rowZ (3 : Int) b (3 : Nat))).snd (↑j : Int))])
 (List.range (3 : Nat)) ∧
 (3 : Int) = (3 : Int) ∧
 (jnZ (3 : Int) (rowZ (3 : Int) a (3 : Nat)) (rowZ (3 : Int) b (3 : Nat))).fst =
 (jnZ (3 : Int) (rowZ (3 : Int) a (3 : Nat)) (rowZ (3 : Int) b (3 : Nat))).fst ∧
 ∀ (o : Nat),
 o < nat_lit 49 →
 (jnZ (3 : Int) (rowZ (3 : Int) a (3 : Nat)) (rowZ (3 : Int) b (3 : Nat))).snd o =
 (jnZ (3 : Int) (rowZ (3 : Int) a (3 : Nat)) (rowZ (3 : Int) b (3 : Nat))).snd o) ∧
 ∀ (i : Int),
 (1 : Int) ≤ i ∧ i ≤ (7 : Int) →
 (decide (i < (7 : Int)) = true →
 Tm (↑(rowI (3 : Nat) (hz fun (j : Nat) => if c = true then b j else a j)).len : Int)
 (ex (tamP (3 : Int) (Int.toNat (4 : Int)) (ex k n v d)).k (tamP (3 : Int) (Int.toNat (4 : Int)) (ex k n v d)).n
 (tamP (3 : Int) (Int.toNat (4 : Int)) (ex k n v d)).v (dE (tamP (3 : Int) (Int.toNat (4 : Int)) (ex k n v d)).kids)) ∧
 Tm (↑(rowI (3 : Nat) (hz fun (j : Nat) => if c = true then b j else a j)).len : Int)
 (ex (tamP (3 : Int) (Int.toNat (4 : Int)) (ex k2 n2 v2 d2)).k (tamP (3 : Int) (Int.toNat (4 : Int)) (ex k2 n2 v2 d2)).n
 (tamP (3 : Int) (Int.toNat (4 : Int)) (ex k2 n2 v2 d2)).v (dE (tamP (3 : Int) (Int.toNat (4 : Int)) (ex k2 n2 v2 d2)).kids)) ∧
 InV (↑(rowI (3 : Nat) (hz fun (j : Nat) => if c = true then b j else a j)).len : Int)
 (vD (rowI (3 : Nat) (hz fun (j : Nat) => if c = true then b j else a j))) ∧
 Small
 (ex (tamP (3 : Int) (Int.toNat (4 : Int)) (ex k n v d)).k (tamP (3 : Int) (Int.toNat (4 : Int)) (ex k n v d)).n
 (tamP (3 : Int) (Int.toNat (4 : Int)) (ex k n v d)).v (dE (tamP (3 : Int) (Int.toNat (4 : Int)) (ex k n v d)).kids)) ∧
 Small
 (ex (tamP (3 : Int) (Int.toNat (4 : Int)) (ex k2 n2 v2 d2)).k (tamP (3 : Int) (Int.toNat (4 : Int)) (ex k2 n2 v2 d2)).n
 (tamP (3 : Int) (Int.toNat (4 : Int)) (ex k2 n2 v2 d2)).v
 (dE (tamP (3 : Int) (Int.toNat (4 : Int)) (ex k2 n2 v2 d2)).kids)) ∧
 NumOK (3 : Int) (jnZ (3 : Int) (rowZ (3 : Int) a (3 : Nat)) (rowZ (3 : Int) b (3 : Nat))).fst
 (itD (3 : Nat) (3 : Int) (jnZ (3 : Int) (rowZ (3 : Int) a (3 : Nat)) (rowZ (3 : Int) b (3 : Nat))))
 (jnZ (3 : Int) (rowZ (3 : Int) a (3 : Nat)) (rowZ (3 : Int) b (3 : Nat))).fst
 (jnZ (3 : Int) (rowZ (3 : Int) a (3 : Nat)) (rowZ (3 : Int) b (3 : Nat))).snd ∧
 (0 : Int) < (3 : Int) ∧
 Sm
 (asmZ (3 : Int) i
 (ex
 (ex (tamP (3 : Int) (Int.toNat (4 : Int)) (ex k n v d)).k (tamP (3 : Int) (Int.toNat (4 : Int)) (ex k n v d)).n
 (tamP (3 : Int) (Int.toNat (4 : Int)) (ex k n v d)).v
 (dE (tamP (3 : Int) (Int.toNat (4 : Int)) (ex k n v d)).kids)).k
 (ex (tamP (3 : Int) (Int.toNat (4 : Int)) (ex k n v d)).k (tamP (3 : Int) (Int.toNat (4 : Int)) (ex k n v d)).n
 (tamP (3 : Int) (Int.toNat (4 : Int)) (ex k n v d)).v
 (dE (tamP (3 : Int) (Int.toNat (4 : Int)) (ex k n v d)).kids)).n
 (ex (tamP (3 : Int) (Int.toNat (4 : Int)) (ex k n v d)).k (tamP (3 : Int) (Int.toNat (4 : Int)) (ex k n v d)).n
 (tamP (3 : Int) (Int.toNat (4 : Int)) (ex k n v d)).v
 (dE (tamP (3 : Int) (Int.toNat (4 : Int)) (ex k n v d)).kids)).v
 (dE
 (ex (tamP (3 : Int) (Int.toNat (4 : Int)) (ex k n v d)).k
 (tamP (3 : Int) (Int.toNat (4 : Int)) (ex k n v d)).n
 (tamP (3 : Int) (Int.toNat (4 : Int)) (ex k n v d)).v
 (dE (tamP (3 : Int) (Int.toNat (4 : Int)) (ex k n v d)).kids)).kids))
 (ex
 (ex (tamP (3 : Int) (Int.toNat (4 : Int)) (ex k2 n2 v2 d2)).k
 (tamP (3 : Int) (Int.toNat (4 : Int)) (ex k2 n2 v2 d2)).n
 (tamP (3 : Int) (Int.toNat (4 : Int)) (ex k2 n2 v2 d2)).v
 (dE (tamP (3 : Int) (Int.toNat (4 : Int)) (ex k2 n2 v2 d2)).kids)).k
 (ex (tamP (3 : Int) (Int.toNat (4 : Int)) (ex k2 n2 v2 d2)).k
 (tamP (3 : Int) (Int.toNat (4 : Int)) (ex k2 n2 v2 d2)).n
 (tamP (3 : Int) (Int.toNat (4 : Int)) (ex k2 n2 v2 d2)).v
 (dE (tamP (3 : Int) (Int.toNat (4 : Int)) (ex k2 n2 v2 d2)).kids)).n
 (ex (tamP (3 : Int) (Int.toNat (4 : Int)) (ex k2 n2 v2 d2)).k
 (tamP (3 : Int) (Int.toNat (4 : Int)) (ex k2 n2 v2 d2)).n
 (tamP (3 : Int) (Int.toNat (4 : Int)) (ex k2 n2 v2 d2)).v
 (dE (tamP (3 : Int) (Int.toNat (4 : Int)) (ex k2 n2 v2 d2)).kids)).v
 (dE
 (ex (tamP (3 : Int) (Int.toNat (4 : Int)) (ex k2 n2 v2 d2)).k
 (tamP (3 : Int) (Int.toNat (4 : Int)) (ex k2 n2 v2 d2)).n
 (tamP (3 : Int) (Int.toNat (4 : Int)) (ex k2 n2 v2 d2)).v
 (dE (tamP (3 : Int) (Int.toNat (4 : Int)) (ex k2 n2 v2 d2)).kids)).kids))
 ((jnZ (3 : Int) (rowZ (3 : Int) a (3 : Nat)) (rowZ (3 : Int) b (3 : Nat))).fst,
 (jnZ (3 : Int) (rowZ (3 : Int) a (3 : Nat)) (rowZ (3 : Int) b (3 : Nat))).snd)).fst.snd ∧
 (itD (Int.toNat (3 : Int)) (3 : Int)
 (asmZ (3 : Int) i
 (ex
 (ex (tamP (3 : Int) (Int.toNat (4 : Int)) (ex k n v d)).k
 (tamP (3 : Int) (Int.toNat (4 : Int)) (ex k n v d)).n
 (tamP (3 : Int) (Int.toNat (4 : Int)) (ex k n v d)).v
 (dE (tamP (3 : Int) (Int.toNat (4 : Int)) (ex k n v d)).kids)).k
 (ex (tamP (3 : Int) (Int.toNat (4 : Int)) (ex k n v d)).k
 (tamP (3 : Int) (Int.toNat (4 : Int)) (ex k n v d)).n
 (tamP (3 : Int) (Int.toNat (4 : Int)) (ex k n v d)).v
 (dE (tamP (3 : Int) (Int.toNat (4 : Int)) (ex k n v d)).kids)).n
 (ex (tamP (3 : Int) (Int.toNat (4 : Int)) (ex k n v d)).k
 (tamP (3 : Int) (Int.toNat (4 : Int)) (ex k n v d)).n
 (tamP (3 : Int) (Int.toNat (4 : Int)) (ex k n v d)).v
 (dE (tamP (3 : Int) (Int.toNat (4 : Int)) (ex k n v d)).kids)).v
 (dE
 (ex (tamP (3 : Int) (Int.toNat (4 : Int)) (ex k n v d)).k
 (tamP (3 : Int) (Int.toNat (4 : Int)) (ex k n v d)).n
 (tamP (3 : Int) (Int.toNat (4 : Int)) (ex k n v d)).v
 (dE (tamP (3 : Int) (Int.toNat (4 : Int)) (ex k n v d)).kids)).kids))
 (ex
 (ex (tamP (3 : Int) (Int.toNat (4 : Int)) (ex k2 n2 v2 d2)).k
 (tamP (3 : Int) (Int.toNat (4 : Int)) (ex k2 n2 v2 d2)).n
 (tamP (3 : Int) (Int.toNat (4 : Int)) (ex k2 n2 v2 d2)).v
 (dE (tamP (3 : Int) (Int.toNat (4 : Int)) (ex k2 n2 v2 d2)).kids)).k
 (ex (tamP (3 : Int) (Int.toNat (4 : Int)) (ex k2 n2 v2 d2)).k
 (tamP (3 : Int) (Int.toNat (4 : Int)) (ex k2 n2 v2 d2)).n
 (tamP (3 : Int) (Int.toNat (4 : Int)) (ex k2 n2 v2 d2)).v
 (dE (tamP (3 : Int) (Int.toNat (4 : Int)) (ex k2 n2 v2 d2)).kids)).n
 (ex (tamP (3 : Int) (Int.toNat (4 : Int)) (ex k2 n2 v2 d2)).k
 (tamP (3 : Int) (Int.toNat (4 : Int)) (ex k2 n2 v2 d2)).n
 (tamP (3 : Int) (Int.toNat (4 : Int)) (ex k2 n2 v2 d2)).v
 (dE (tamP (3 : Int) (Int.toNat (4 : Int)) (ex k2 n2 v2 d2)).kids)).v
 (dE
 (ex (tamP (3 : Int) (Int.toNat (4 : Int)) (ex k2 n2 v2 d2)).k
 (tamP (3 : Int) (Int.toNat (4 : Int)) (ex k2 n2 v2 d2)).n
 (tamP (3 : Int) (Int.toNat (4 : Int)) (ex k2 n2 v2 d2)).v
 (dE (tamP (3 : Int) (Int.toNat (4 : Int)) (ex k2 n2 v2 d2)).kids)).kids))
 ((jnZ (3 : Int) (rowZ (3 : Int) a (3 : Nat)) (rowZ (3 : Int) b (3 : Nat))).fst,
 (jnZ (3 : Int) (rowZ (3 : Int) a (3 : Nat)) (rowZ (3 : Int) b (3 : Nat))).snd)).fst).len ≤
 (1000 : Nat) ∧
 (((hldT i
 (evT (vD (rowI (3 : Nat) (hz fun (j : Nat) => if c = true then b j else a j)))
 (ex (tamP (3 : Int) (Int.toNat (4 : Int)) (ex k n v d)).k
 (tamP (3 : Int) (Int.toNat (4 : Int)) (ex k n v d)).n
 (tamP (3 : Int) (Int.toNat (4 : Int)) (ex k n v d)).v
 (dE (tamP (3 : Int) (Int.toNat (4 : Int)) (ex k n v d)).kids)))
 (evT (vD (rowI (3 : Nat) (hz fun (j : Nat) => if c = true then b j else a j)))
 (ex (tamP (3 : Int) (Int.toNat (4 : Int)) (ex k2 n2 v2 d2)).k
 (tamP (3 : Int) (Int.toNat (4 : Int)) (ex k2 n2 v2 d2)).n
 (tamP (3 : Int) (Int.toNat (4 : Int)) (ex k2 n2 v2 d2)).v
 (dE (tamP (3 : Int) (Int.toNat (4 : Int)) (ex k2 n2 v2 d2)).kids)))).snd ==
 (0 : Int) &&
 (hldT i
 (evT (vD (rowI (3 : Nat) (hz fun (j : Nat) => if c = true then b j else a j)))
 (ex (tamP (3 : Int) (Int.toNat (4 : Int)) (ex k n v d)).k
 (tamP (3 : Int) (Int.toNat (4 : Int)) (ex k n v d)).n
 (tamP (3 : Int) (Int.toNat (4 : Int)) (ex k n v d)).v
 (dE (tamP (3 : Int) (Int.toNat (4 : Int)) (ex k n v d)).kids)))
 (evT (vD (rowI (3 : Nat) (hz fun (j : Nat) => if c = true then b j else a j)))
 (ex (tamP (3 : Int) (Int.toNat (4 : Int)) (ex k2 n2 v2 d2)).k
 (tamP (3 : Int) (Int.toNat (4 : Int)) (ex k2 n2 v2 d2)).n
 (tamP (3 : Int) (Int.toNat (4 : Int)) (ex k2 n2 v2 d2)).v
 (dE (tamP (3 : Int) (Int.toNat (4 : Int)) (ex k2 n2 v2 d2)).kids)))).fst) =
 true ∧
 (!nrightP
 (asmZ (3 : Int) i
 (ex
 (ex (tamP (3 : Int) (Int.toNat (4 : Int)) (ex k n v d)).k
 (tamP (3 : Int) (Int.toNat (4 : Int)) (ex k n v d)).n
 (tamP (3 : Int) (Int.toNat (4 : Int)) (ex k n v d)).v
 (dE (tamP (3 : Int) (Int.toNat (4 : Int)) (ex k n v d)).kids)).k
 (ex (tamP (3 : Int) (Int.toNat (4 : Int)) (ex k n v d)).k
 (tamP (3 : Int) (Int.toNat (4 : Int)) (ex k n v d)).n
 (tamP (3 : Int) (Int.toNat (4 : Int)) (ex k n v d)).v
 (dE (tamP (3 : Int) (Int.toNat (4 : Int)) (ex k n v d)).kids)).n
 (ex (tamP (3 : Int) (Int.toNat (4 : Int)) (ex k n v d)).k
 (tamP (3 : Int) (Int.toNat (4 : Int)) (ex k n v d)).n
 (tamP (3 : Int) (Int.toNat (4 : Int)) (ex k n v d)).v
 (dE (tamP (3 : Int) (Int.toNat (4 : Int)) (ex k n v d)).kids)).v
 (dE
 (ex (tamP (3 : Int) (Int.toNat (4 : Int)) (ex k n v d)).k
 (tamP (3 : Int) (Int.toNat (4 : Int)) (ex k n v d)).n
 (tamP (3 : Int) (Int.toNat (4 : Int)) (ex k n v d)).v
 (dE (tamP (3 : Int) (Int.toNat (4 : Int)) (ex k n v d)).kids)).kids))
 (ex
 (ex (tamP (3 : Int) (Int.toNat (4 : Int)) (ex k2 n2 v2 d2)).k
 (tamP (3 : Int) (Int.toNat (4 : Int)) (ex k2 n2 v2 d2)).n
 (tamP (3 : Int) (Int.toNat (4 : Int)) (ex k2 n2 v2 d2)).v
 (dE (tamP (3 : Int) (Int.toNat (4 : Int)) (ex k2 n2 v2 d2)).kids)).k
 (ex (tamP (3 : Int) (Int.toNat (4 : Int)) (ex k2 n2 v2 d2)).k
 (tamP (3 : Int) (Int.toNat (4 : Int)) (ex k2 n2 v2 d2)).n
 (tamP (3 : Int) (Int.toNat (4 : Int)) (ex k2 n2 v2 d2)).v
 (dE (tamP (3 : Int) (Int.toNat (4 : Int)) (ex k2 n2 v2 d2)).kids)).n
 (ex (tamP (3 : Int) (Int.toNat (4 : Int)) (ex k2 n2 v2 d2)).k
 (tamP (3 : Int) (Int.toNat (4 : Int)) (ex k2 n2 v2 d2)).n
 (tamP (3 : Int) (Int.toNat (4 : Int)) (ex k2 n2 v2 d2)).v
 (dE (tamP (3 : Int) (Int.toNat (4 : Int)) (ex k2 n2 v2 d2)).kids)).v
 (dE
 (ex (tamP (3 : Int) (Int.toNat (4 : Int)) (ex k2 n2 v2 d2)).k
 (tamP (3 : Int) (Int.toNat (4 : Int)) (ex k2 n2 v2 d2)).n
 (tamP (3 : Int) (Int.toNat (4 : Int)) (ex k2 n2 v2 d2)).v
 (dE (tamP (3 : Int) (Int.toNat (4 : Int)) (ex k2 n2 v2 d2)).kids)).kids))
 ((jnZ (3 : Int) (rowZ (3 : Int) a (3 : Nat)) (rowZ (3 : Int) b (3 : Nat))).fst,
 (jnZ (3 : Int) (rowZ (3 : Int) a (3 : Nat)) (rowZ (3 : Int) b (3 : Nat))).snd)).fst.fst
 (itD (Int.toNat (3 : Int)) (3 : Int)
 (asmZ (3 : Int) i
 (ex
 (ex (tamP (3 : Int) (Int.toNat (4 : Int)) (ex k n v d)).k
 (tamP (3 : Int) (Int.toNat (4 : Int)) (ex k n v d)).n
 (tamP (3 : Int) (Int.toNat (4 : Int)) (ex k n v d)).v
 (dE (tamP (3 : Int) (Int.toNat (4 : Int)) (ex k n v d)).kids)).k
 (ex (tamP (3 : Int) (Int.toNat (4 : Int)) (ex k n v d)).k
 (tamP (3 : Int) (Int.toNat (4 : Int)) (ex k n v d)).n
 (tamP (3 : Int) (Int.toNat (4 : Int)) (ex k n v d)).v
 (dE (tamP (3 : Int) (Int.toNat (4 : Int)) (ex k n v d)).kids)).n
 (ex (tamP (3 : Int) (Int.toNat (4 : Int)) (ex k n v d)).k
 (tamP (3 : Int) (Int.toNat (4 : Int)) (ex k n v d)).n
 (tamP (3 : Int) (Int.toNat (4 : Int)) (ex k n v d)).v
 (dE (tamP (3 : Int) (Int.toNat (4 : Int)) (ex k n v d)).kids)).v
 (dE
 (ex (tamP (3 : Int) (Int.toNat (4 : Int)) (ex k n v d)).k
 (tamP (3 : Int) (Int.toNat (4 : Int)) (ex k n v d)).n
 (tamP (3 : Int) (Int.toNat (4 : Int)) (ex k n v d)).v
 (dE (tamP (3 : Int) (Int.toNat (4 : Int)) (ex k n v d)).kids)).kids))
 (ex
 (ex (tamP (3 : Int) (Int.toNat (4 : Int)) (ex k2 n2 v2 d2)).k
 (tamP (3 : Int) (Int.toNat (4 : Int)) (ex k2 n2 v2 d2)).n
 (tamP (3 : Int) (Int.toNat (4 : Int)) (ex k2 n2 v2 d2)).v
 (dE (tamP (3 : Int) (Int.toNat (4 : Int)) (ex k2 n2 v2 d2)).kids)).k
 (ex (tamP (3 : Int) (Int.toNat (4 : Int)) (ex k2 n2 v2 d2)).k
 (tamP (3 : Int) (Int.toNat (4 : Int)) (ex k2 n2 v2 d2)).n
 (tamP (3 : Int) (Int.toNat (4 : Int)) (ex k2 n2 v2 d2)).v
 (dE (tamP (3 : Int) (Int.toNat (4 : Int)) (ex k2 n2 v2 d2)).kids)).n
 (ex (tamP (3 : Int) (Int.toNat (4 : Int)) (ex k2 n2 v2 d2)).k
 (tamP (3 : Int) (Int.toNat (4 : Int)) (ex k2 n2 v2 d2)).n
 (tamP (3 : Int) (Int.toNat (4 : Int)) (ex k2 n2 v2 d2)).v
 (dE (tamP (3 : Int) (Int.toNat (4 : Int)) (ex k2 n2 v2 d2)).kids)).v
 (dE
 (ex (tamP (3 : Int) (Int.toNat (4 : Int)) (ex k2 n2 v2 d2)).k
 (tamP (3 : Int) (Int.toNat (4 : Int)) (ex k2 n2 v2 d2)).n
 (tamP (3 : Int) (Int.toNat (4 : Int)) (ex k2 n2 v2 d2)).v
 (dE (tamP (3 : Int) (Int.toNat (4 : Int)) (ex k2 n2 v2 d2)).kids)).kids))
 ((jnZ (3 : Int) (rowZ (3 : Int) a (3 : Nat)) (rowZ (3 : Int) b (3 : Nat))).fst,
 (jnZ (3 : Int) (rowZ (3 : Int) a (3 : Nat)) (rowZ (3 : Int) b (3 : Nat))).snd)).fst)
 (3 : Int)
 (asmZ (3 : Int) i
 (ex
 (ex (tamP (3 : Int) (Int.toNat (4 : Int)) (ex k n v d)).k
 (tamP (3 : Int) (Int.toNat (4 : Int)) (ex k n v d)).n
 (tamP (3 : Int) (Int.toNat (4 : Int)) (ex k n v d)).v
 (dE (tamP (3 : Int) (Int.toNat (4 : Int)) (ex k n v d)).kids)).k
 (ex (tamP (3 : Int) (Int.toNat (4 : Int)) (ex k n v d)).k
 (tamP (3 : Int) (Int.toNat (4 : Int)) (ex k n v d)).n
 (tamP (3 : Int) (Int.toNat (4 : Int)) (ex k n v d)).v
 (dE (tamP (3 : Int) (Int.toNat (4 : Int)) (ex k n v d)).kids)).n
 (ex (tamP (3 : Int) (Int.toNat (4 : Int)) (ex k n v d)).k
 (tamP (3 : Int) (Int.toNat (4 : Int)) (ex k n v d)).n
 (tamP (3 : Int) (Int.toNat (4 : Int)) (ex k n v d)).v
 (dE (tamP (3 : Int) (Int.toNat (4 : Int)) (ex k n v d)).kids)).v
 (dE
 (ex (tamP (3 : Int) (Int.toNat (4 : Int)) (ex k n v d)).k
 (tamP (3 : Int) (Int.toNat (4 : Int)) (ex k n v d)).n
 (tamP (3 : Int) (Int.toNat (4 : Int)) (ex k n v d)).v
 (dE (tamP (3 : Int) (Int.toNat (4 : Int)) (ex k n v d)).kids)).kids))
 (ex
 (ex (tamP (3 : Int) (Int.toNat (4 : Int)) (ex k2 n2 v2 d2)).k
 (tamP (3 : Int) (Int.toNat (4 : Int)) (ex k2 n2 v2 d2)).n
 (tamP (3 : Int) (Int.toNat (4 : Int)) (ex k2 n2 v2 d2)).v
 (dE (tamP (3 : Int) (Int.toNat (4 : Int)) (ex k2 n2 v2 d2)).kids)).k
 (ex (tamP (3 : Int) (Int.toNat (4 : Int)) (ex k2 n2 v2 d2)).k
 (tamP (3 : Int) (Int.toNat (4 : Int)) (ex k2 n2 v2 d2)).n
 (tamP (3 : Int) (Int.toNat (4 : Int)) (ex k2 n2 v2 d2)).v
 (dE (tamP (3 : Int) (Int.toNat (4 : Int)) (ex k2 n2 v2 d2)).kids)).n
 (ex (tamP (3 : Int) (Int.toNat (4 : Int)) (ex k2 n2 v2 d2)).k
 (tamP (3 : Int) (Int.toNat (4 : Int)) (ex k2 n2 v2 d2)).n
 (tamP (3 : Int) (Int.toNat (4 : Int)) (ex k2 n2 v2 d2)).v
 (dE (tamP (3 : Int) (Int.toNat (4 : Int)) (ex k2 n2 v2 d2)).kids)).v
 (dE
 (ex (tamP (3 : Int) (Int.toNat (4 : Int)) (ex k2 n2 v2 d2)).k
 (tamP (3 : Int) (Int.toNat (4 : Int)) (ex k2 n2 v2 d2)).n
 (tamP (3 : Int) (Int.toNat (4 : Int)) (ex k2 n2 v2 d2)).v
 (dE (tamP (3 : Int) (Int.toNat (4 : Int)) (ex k2 n2 v2 d2)).kids)).kids))
 ((jnZ (3 : Int) (rowZ (3 : Int) a (3 : Nat)) (rowZ (3 : Int) b (3 : Nat))).fst,
 (jnZ (3 : Int) (rowZ (3 : Int) a (3 : Nat)) (rowZ (3 : Int) b (3 : Nat))).snd)).fst.fst
 (asmZ (3 : Int) i
 (ex
 (ex (tamP (3 : Int) (Int.toNat (4 : Int)) (ex k n v d)).k
 (tamP (3 : Int) (Int.toNat (4 : Int)) (ex k n v d)).n
 (tamP (3 : Int) (Int.toNat (4 : Int)) (ex k n v d)).v
 (dE (tamP (3 : Int) (Int.toNat (4 : Int)) (ex k n v d)).kids)).k
 (ex (tamP (3 : Int) (Int.toNat (4 : Int)) (ex k n v d)).k
 (tamP (3 : Int) (Int.toNat (4 : Int)) (ex k n v d)).n
 (tamP (3 : Int) (Int.toNat (4 : Int)) (ex k n v d)).v
 (dE (tamP (3 : Int) (Int.toNat (4 : Int)) (ex k n v d)).kids)).n
 (ex (tamP (3 : Int) (Int.toNat (4 : Int)) (ex k n v d)).k
 (tamP (3 : Int) (Int.toNat (4 : Int)) (ex k n v d)).n
 (tamP (3 : Int) (Int.toNat (4 : Int)) (ex k n v d)).v
 (dE (tamP (3 : Int) (Int.toNat (4 : Int)) (ex k n v d)).kids)).v
 (dE
 (ex (tamP (3 : Int) (Int.toNat (4 : Int)) (ex k n v d)).k
 (tamP (3 : Int) (Int.toNat (4 : Int)) (ex k n v d)).n
 (tamP (3 : Int) (Int.toNat (4 : Int)) (ex k n v d)).v
 (dE (tamP (3 : Int) (Int.toNat (4 : Int)) (ex k n v d)).kids)).kids))
 (ex
 (ex (tamP (3 : Int) (Int.toNat (4 : Int)) (ex k2 n2 v2 d2)).k
 (tamP (3 : Int) (Int.toNat (4 : Int)) (ex k2 n2 v2 d2)).n
 (tamP (3 : Int) (Int.toNat (4 : Int)) (ex k2 n2 v2 d2)).v
 (dE (tamP (3 : Int) (Int.toNat (4 : Int)) (ex k2 n2 v2 d2)).kids)).k
 (ex (tamP (3 : Int) (Int.toNat (4 : Int)) (ex k2 n2 v2 d2)).k
 (tamP (3 : Int) (Int.toNat (4 : Int)) (ex k2 n2 v2 d2)).n
 (tamP (3 : Int) (Int.toNat (4 : Int)) (ex k2 n2 v2 d2)).v
 (dE (tamP (3 : Int) (Int.toNat (4 : Int)) (ex k2 n2 v2 d2)).kids)).n
 (ex (tamP (3 : Int) (Int.toNat (4 : Int)) (ex k2 n2 v2 d2)).k
 (tamP (3 : Int) (Int.toNat (4 : Int)) (ex k2 n2 v2 d2)).n
 (tamP (3 : Int) (Int.toNat (4 : Int)) (ex k2 n2 v2 d2)).v
 (dE (tamP (3 : Int) (Int.toNat (4 : Int)) (ex k2 n2 v2 d2)).kids)).v
 (dE
 (ex (tamP (3 : Int) (Int.toNat (4 : Int)) (ex k2 n2 v2 d2)).k
 (tamP (3 : Int) (Int.toNat (4 : Int)) (ex k2 n2 v2 d2)).n
 (tamP (3 : Int) (Int.toNat (4 : Int)) (ex k2 n2 v2 d2)).v
 (dE (tamP (3 : Int) (Int.toNat (4 : Int)) (ex k2 n2 v2 d2)).kids)).kids))
 ((jnZ (3 : Int) (rowZ (3 : Int) a (3 : Nat)) (rowZ (3 : Int) b (3 : Nat))).fst,
 (jnZ (3 : Int) (rowZ (3 : Int) a (3 : Nat)) (rowZ (3 : Int) b (3 : Nat))).snd)).fst.snd ||
 !withinP (3 : Int)
 (asmZ (3 : Int) i
 (ex
 (ex (tamP (3 : Int) (Int.toNat (4 : Int)) (ex k n v d)).k
 (tamP (3 : Int) (Int.toNat (4 : Int)) (ex k n v d)).n
 (tamP (3 : Int) (Int.toNat (4 : Int)) (ex k n v d)).v
 (dE (tamP (3 : Int) (Int.toNat (4 : Int)) (ex k n v d)).kids)).k
 (ex (tamP (3 : Int) (Int.toNat (4 : Int)) (ex k n v d)).k
 (tamP (3 : Int) (Int.toNat (4 : Int)) (ex k n v d)).n
 (tamP (3 : Int) (Int.toNat (4 : Int)) (ex k n v d)).v
 (dE (tamP (3 : Int) (Int.toNat (4 : Int)) (ex k n v d)).kids)).n
 (ex (tamP (3 : Int) (Int.toNat (4 : Int)) (ex k n v d)).k
 (tamP (3 : Int) (Int.toNat (4 : Int)) (ex k n v d)).n
 (tamP (3 : Int) (Int.toNat (4 : Int)) (ex k n v d)).v
 (dE (tamP (3 : Int) (Int.toNat (4 : Int)) (ex k n v d)).kids)).v
 (dE
 (ex (tamP (3 : Int) (Int.toNat (4 : Int)) (ex k n v d)).k
 (tamP (3 : Int) (Int.toNat (4 : Int)) (ex k n v d)).n
 (tamP (3 : Int) (Int.toNat (4 : Int)) (ex k n v d)).v
 (dE (tamP (3 : Int) (Int.toNat (4 : Int)) (ex k n v d)).kids)).kids))
 (ex
 (ex (tamP (3 : Int) (Int.toNat (4 : Int)) (ex k2 n2 v2 d2)).k
 (tamP (3 : Int) (Int.toNat (4 : Int)) (ex k2 n2 v2 d2)).n
 (tamP (3 : Int) (Int.toNat (4 : Int)) (ex k2 n2 v2 d2)).v
 (dE (tamP (3 : Int) (Int.toNat (4 : Int)) (ex k2 n2 v2 d2)).kids)).k
 (ex (tamP (3 : Int) (Int.toNat (4 : Int)) (ex k2 n2 v2 d2)).k
 (tamP (3 : Int) (Int.toNat (4 : Int)) (ex k2 n2 v2 d2)).n
 (tamP (3 : Int) (Int.toNat (4 : Int)) (ex k2 n2 v2 d2)).v
 (dE (tamP (3 : Int) (Int.toNat (4 : Int)) (ex k2 n2 v2 d2)).kids)).n
 (ex (tamP (3 : Int) (Int.toNat (4 : Int)) (ex k2 n2 v2 d2)).k
 (tamP (3 : Int) (Int.toNat (4 : Int)) (ex k2 n2 v2 d2)).n
 (tamP (3 : Int) (Int.toNat (4 : Int)) (ex k2 n2 v2 d2)).v
 (dE (tamP (3 : Int) (Int.toNat (4 : Int)) (ex k2 n2 v2 d2)).kids)).v
 (dE
 (ex (tamP (3 : Int) (Int.toNat (4 : Int)) (ex k2 n2 v2 d2)).k
 (tamP (3 : Int) (Int.toNat (4 : Int)) (ex k2 n2 v2 d2)).n
 (tamP (3 : Int) (Int.toNat (4 : Int)) (ex k2 n2 v2 d2)).v
 (dE (tamP (3 : Int) (Int.toNat (4 : Int)) (ex k2 n2 v2 d2)).kids)).kids))
 ((jnZ (3 : Int) (rowZ (3 : Int) a (3 : Nat)) (rowZ (3 : Int) b (3 : Nat))).fst,
 (jnZ (3 : Int) (rowZ (3 : Int) a (3 : Nat)) (rowZ (3 : Int) b (3 : Nat))).snd)).fst.fst
 (asmZ (3 : Int) i
 (ex
 (ex (tamP (3 : Int) (Int.toNat (4 : Int)) (ex k n v d)).k
 (tamP (3 : Int) (Int.toNat (4 : Int)) (ex k n v d)).n
 (tamP (3 : Int) (Int.toNat (4 : Int)) (ex k n v d)).v
 (dE (tamP (3 : Int) (Int.toNat (4 : Int)) (ex k n v d)).kids)).k
 (ex (tamP (3 : Int) (Int.toNat (4 : Int)) (ex k n v d)).k
 (tamP (3 : Int) (Int.toNat (4 : Int)) (ex k n v d)).n
 (tamP (3 : Int) (Int.toNat (4 : Int)) (ex k n v d)).v
 (dE (tamP (3 : Int) (Int.toNat (4 : Int)) (ex k n v d)).kids)).n
 (ex (tamP (3 : Int) (Int.toNat (4 : Int)) (ex k n v d)).k
 (tamP (3 : Int) (Int.toNat (4 : Int)) (ex k n v d)).n
 (tamP (3 : Int) (Int.toNat (4 : Int)) (ex k n v d)).v
 (dE (tamP (3 : Int) (Int.toNat (4 : Int)) (ex k n v d)).kids)).v
 (dE
 (ex (tamP (3 : Int) (Int.toNat (4 : Int)) (ex k n v d)).k
 (tamP (3 : Int) (Int.toNat (4 : Int)) (ex k n v d)).n
 (tamP (3 : Int) (Int.toNat (4 : Int)) (ex k n v d)).v
 (dE (tamP (3 : Int) (Int.toNat (4 : Int)) (ex k n v d)).kids)).kids))
 (ex
 (ex (tamP (3 : Int) (Int.toNat (4 : Int)) (ex k2 n2 v2 d2)).k
 (tamP (3 : Int) (Int.toNat (4 : Int)) (ex k2 n2 v2 d2)).n
 (tamP (3 : Int) (Int.toNat (4 : Int)) (ex k2 n2 v2 d2)).v
 (dE (tamP (3 : Int) (Int.toNat (4 : Int)) (ex k2 n2 v2 d2)).kids)).k
 (ex (tamP (3 : Int) (Int.toNat (4 : Int)) (ex k2 n2 v2 d2)).k
 (tamP (3 : Int) (Int.toNat (4 : Int)) (ex k2 n2 v2 d2)).n
 (tamP (3 : Int) (Int.toNat (4 : Int)) (ex k2 n2 v2 d2)).v
 (dE (tamP (3 : Int) (Int.toNat (4 : Int)) (ex k2 n2 v2 d2)).kids)).n
 (ex (tamP (3 : Int) (Int.toNat (4 : Int)) (ex k2 n2 v2 d2)).k
 (tamP (3 : Int) (Int.toNat (4 : Int)) (ex k2 n2 v2 d2)).n
 (tamP (3 : Int) (Int.toNat (4 : Int)) (ex k2 n2 v2 d2)).v
 (dE (tamP (3 : Int) (Int.toNat (4 : Int)) (ex k2 n2 v2 d2)).kids)).v
 (dE
 (ex (tamP (3 : Int) (Int.toNat (4 : Int)) (ex k2 n2 v2 d2)).k
 (tamP (3 : Int) (Int.toNat (4 : Int)) (ex k2 n2 v2 d2)).n
 (tamP (3 : Int) (Int.toNat (4 : Int)) (ex k2 n2 v2 d2)).v
 (dE (tamP (3 : Int) (Int.toNat (4 : Int)) (ex k2 n2 v2 d2)).kids)).kids))
 ((jnZ (3 : Int) (rowZ (3 : Int) a (3 : Nat)) (rowZ (3 : Int) b (3 : Nat))).fst,
 (jnZ (3 : Int) (rowZ (3 : Int) a (3 : Nat)) (rowZ (3 : Int) b (3 : Nat))).snd)).fst.snd
 (3 : Int) (jnZ (3 : Int) (rowZ (3 : Int) a (3 : Nat)) (rowZ (3 : Int) b (3 : Nat))).fst
 (jnZ (3 : Int) (rowZ (3 : Int) a (3 : Nat)) (rowZ (3 : Int) b (3 : Nat))).snd ||
 (hldT i
 (evT (vD (rowI (3 : Nat) (hz fun (j : Nat) => if c = true then b j else a j)))
 (ex (tamP (3 : Int) (Int.toNat (4 : Int)) (ex k n v d)).k
 (tamP (3 : Int) (Int.toNat (4 : Int)) (ex k n v d)).n
 (tamP (3 : Int) (Int.toNat (4 : Int)) (ex k n v d)).v
 (dE (tamP (3 : Int) (Int.toNat (4 : Int)) (ex k n v d)).kids)))
 (evT (vD (rowI (3 : Nat) (hz fun (j : Nat) => if c = true then b j else a j)))
 (ex (tamP (3 : Int) (Int.toNat (4 : Int)) (ex k2 n2 v2 d2)).k
 (tamP (3 : Int) (Int.toNat (4 : Int)) (ex k2 n2 v2 d2)).n
 (tamP (3 : Int) (Int.toNat (4 : Int)) (ex k2 n2 v2 d2)).v
 (dE (tamP (3 : Int) (Int.toNat (4 : Int)) (ex k2 n2 v2 d2)).kids)))).snd ==
 (2 : Int) &&
 !(asmZ (3 : Int) i
 (ex
 (ex (tamP (3 : Int) (Int.toNat (4 : Int)) (ex k n v d)).k
 (tamP (3 : Int) (Int.toNat (4 : Int)) (ex k n v d)).n
 (tamP (3 : Int) (Int.toNat (4 : Int)) (ex k n v d)).v
 (dE (tamP (3 : Int) (Int.toNat (4 : Int)) (ex k n v d)).kids)).k
 (ex (tamP (3 : Int) (Int.toNat (4 : Int)) (ex k n v d)).k
 (tamP (3 : Int) (Int.toNat (4 : Int)) (ex k n v d)).n
 (tamP (3 : Int) (Int.toNat (4 : Int)) (ex k n v d)).v
 (dE (tamP (3 : Int) (Int.toNat (4 : Int)) (ex k n v d)).kids)).n
 (ex (tamP (3 : Int) (Int.toNat (4 : Int)) (ex k n v d)).k
 (tamP (3 : Int) (Int.toNat (4 : Int)) (ex k n v d)).n
 (tamP (3 : Int) (Int.toNat (4 : Int)) (ex k n v d)).v
 (dE (tamP (3 : Int) (Int.toNat (4 : Int)) (ex k n v d)).kids)).v
 (dE
 (ex (tamP (3 : Int) (Int.toNat (4 : Int)) (ex k n v d)).k
 (tamP (3 : Int) (Int.toNat (4 : Int)) (ex k n v d)).n
 (tamP (3 : Int) (Int.toNat (4 : Int)) (ex k n v d)).v
 (dE (tamP (3 : Int) (Int.toNat (4 : Int)) (ex k n v d)).kids)).kids))
 (ex
 (ex (tamP (3 : Int) (Int.toNat (4 : Int)) (ex k2 n2 v2 d2)).k
 (tamP (3 : Int) (Int.toNat (4 : Int)) (ex k2 n2 v2 d2)).n
 (tamP (3 : Int) (Int.toNat (4 : Int)) (ex k2 n2 v2 d2)).v
 (dE (tamP (3 : Int) (Int.toNat (4 : Int)) (ex k2 n2 v2 d2)).kids)).k
 (ex (tamP (3 : Int) (Int.toNat (4 : Int)) (ex k2 n2 v2 d2)).k
 (tamP (3 : Int) (Int.toNat (4 : Int)) (ex k2 n2 v2 d2)).n
 (tamP (3 : Int) (Int.toNat (4 : Int)) (ex k2 n2 v2 d2)).v
 (dE (tamP (3 : Int) (Int.toNat (4 : Int)) (ex k2 n2 v2 d2)).kids)).n
 (ex (tamP (3 : Int) (Int.toNat (4 : Int)) (ex k2 n2 v2 d2)).k
 (tamP (3 : Int) (Int.toNat (4 : Int)) (ex k2 n2 v2 d2)).n
 (tamP (3 : Int) (Int.toNat (4 : Int)) (ex k2 n2 v2 d2)).v
 (dE (tamP (3 : Int) (Int.toNat (4 : Int)) (ex k2 n2 v2 d2)).kids)).v
 (dE
 (ex (tamP (3 : Int) (Int.toNat (4 : Int)) (ex k2 n2 v2 d2)).k
 (tamP (3 : Int) (Int.toNat (4 : Int)) (ex k2 n2 v2 d2)).n
 (tamP (3 : Int) (Int.toNat (4 : Int)) (ex k2 n2 v2 d2)).v
 (dE (tamP (3 : Int) (Int.toNat (4 : Int)) (ex k2 n2 v2 d2)).kids)).kids))
 ((jnZ (3 : Int) (rowZ (3 : Int) a (3 : Nat)) (rowZ (3 : Int) b (3 : Nat))).fst,
 (jnZ (3 : Int) (rowZ (3 : Int) a (3 : Nat)) (rowZ (3 : Int) b (3 : Nat))).snd)).snd.fst ||
 (hldT i
 (evT (vD (rowI (3 : Nat) (hz fun (j : Nat) => if c = true then b j else a j)))
 (ex (tamP (3 : Int) (Int.toNat (4 : Int)) (ex k n v d)).k
 (tamP (3 : Int) (Int.toNat (4 : Int)) (ex k n v d)).n
 (tamP (3 : Int) (Int.toNat (4 : Int)) (ex k n v d)).v
 (dE (tamP (3 : Int) (Int.toNat (4 : Int)) (ex k n v d)).kids)))
 (evT (vD (rowI (3 : Nat) (hz fun (j : Nat) => if c = true then b j else a j)))
 (ex (tamP (3 : Int) (Int.toNat (4 : Int)) (ex k2 n2 v2 d2)).k
 (tamP (3 : Int) (Int.toNat (4 : Int)) (ex k2 n2 v2 d2)).n
 (tamP (3 : Int) (Int.toNat (4 : Int)) (ex k2 n2 v2 d2)).v
 (dE (tamP (3 : Int) (Int.toNat (4 : Int)) (ex k2 n2 v2 d2)).kids)))).snd ==
 (3 : Int) &&
 !(asmZ (3 : Int) i
 (ex
 (ex (tamP (3 : Int) (Int.toNat (4 : Int)) (ex k n v d)).k
 (tamP (3 : Int) (Int.toNat (4 : Int)) (ex k n v d)).n
 (tamP (3 : Int) (Int.toNat (4 : Int)) (ex k n v d)).v
 (dE (tamP (3 : Int) (Int.toNat (4 : Int)) (ex k n v d)).kids)).k
 (ex (tamP (3 : Int) (Int.toNat (4 : Int)) (ex k n v d)).k
 (tamP (3 : Int) (Int.toNat (4 : Int)) (ex k n v d)).n
 (tamP (3 : Int) (Int.toNat (4 : Int)) (ex k n v d)).v
 (dE (tamP (3 : Int) (Int.toNat (4 : Int)) (ex k n v d)).kids)).n
 (ex (tamP (3 : Int) (Int.toNat (4 : Int)) (ex k n v d)).k
 (tamP (3 : Int) (Int.toNat (4 : Int)) (ex k n v d)).n
 (tamP (3 : Int) (Int.toNat (4 : Int)) (ex k n v d)).v
 (dE (tamP (3 : Int) (Int.toNat (4 : Int)) (ex k n v d)).kids)).v
 (dE
 (ex (tamP (3 : Int) (Int.toNat (4 : Int)) (ex k n v d)).k
 (tamP (3 : Int) (Int.toNat (4 : Int)) (ex k n v d)).n
 (tamP (3 : Int) (Int.toNat (4 : Int)) (ex k n v d)).v
 (dE (tamP (3 : Int) (Int.toNat (4 : Int)) (ex k n v d)).kids)).kids))
 (ex
 (ex (tamP (3 : Int) (Int.toNat (4 : Int)) (ex k2 n2 v2 d2)).k
 (tamP (3 : Int) (Int.toNat (4 : Int)) (ex k2 n2 v2 d2)).n
 (tamP (3 : Int) (Int.toNat (4 : Int)) (ex k2 n2 v2 d2)).v
 (dE (tamP (3 : Int) (Int.toNat (4 : Int)) (ex k2 n2 v2 d2)).kids)).k
 (ex (tamP (3 : Int) (Int.toNat (4 : Int)) (ex k2 n2 v2 d2)).k
 (tamP (3 : Int) (Int.toNat (4 : Int)) (ex k2 n2 v2 d2)).n
 (tamP (3 : Int) (Int.toNat (4 : Int)) (ex k2 n2 v2 d2)).v
 (dE (tamP (3 : Int) (Int.toNat (4 : Int)) (ex k2 n2 v2 d2)).kids)).n
 (ex (tamP (3 : Int) (Int.toNat (4 : Int)) (ex k2 n2 v2 d2)).k
 (tamP (3 : Int) (Int.toNat (4 : Int)) (ex k2 n2 v2 d2)).n
 (tamP (3 : Int) (Int.toNat (4 : Int)) (ex k2 n2 v2 d2)).v
 (dE (tamP (3 : Int) (Int.toNat (4 : Int)) (ex k2 n2 v2 d2)).kids)).v
 (dE
 (ex (tamP (3 : Int) (Int.toNat (4 : Int)) (ex k2 n2 v2 d2)).k
 (tamP (3 : Int) (Int.toNat (4 : Int)) (ex k2 n2 v2 d2)).n
 (tamP (3 : Int) (Int.toNat (4 : Int)) (ex k2 n2 v2 d2)).v
 (dE (tamP (3 : Int) (Int.toNat (4 : Int)) (ex k2 n2 v2 d2)).kids)).kids))
 ((jnZ (3 : Int) (rowZ (3 : Int) a (3 : Nat)) (rowZ (3 : Int) b (3 : Nat))).fst,
 (jnZ (3 : Int) (rowZ (3 : Int) a (3 : Nat)) (rowZ (3 : Int) b (3 : Nat))).snd)).snd.snd) =
 false ∧
 True →
 (itD (Int.toNat (3 : Int)) (3 : Int)
 (asmZ (3 : Int) i
 (ex
 (ex (tamP (3 : Int) (Int.toNat (4 : Int)) (ex k n v d)).k
 (tamP (3 : Int) (Int.toNat (4 : Int)) (ex k n v d)).n
 (tamP (3 : Int) (Int.toNat (4 : Int)) (ex k n v d)).v
 (dE (tamP (3 : Int) (Int.toNat (4 : Int)) (ex k n v d)).kids)).k
 (ex (tamP (3 : Int) (Int.toNat (4 : Int)) (ex k n v d)).k
 (tamP (3 : Int) (Int.toNat (4 : Int)) (ex k n v d)).n
 (tamP (3 : Int) (Int.toNat (4 : Int)) (ex k n v d)).v
 (dE (tamP (3 : Int) (Int.toNat (4 : Int)) (ex k n v d)).kids)).n
 (ex (tamP (3 : Int) (Int.toNat (4 : Int)) (ex k n v d)).k
 (tamP (3 : Int) (Int.toNat (4 : Int)) (ex k n v d)).n
 (tamP (3 : Int) (Int.toNat (4 : Int)) (ex k n v d)).v
 (dE (tamP (3 : Int) (Int.toNat (4 : Int)) (ex k n v d)).kids)).v
 (dE
 (ex (tamP (3 : Int) (Int.toNat (4 : Int)) (ex k n v d)).k
 (tamP (3 : Int) (Int.toNat (4 : Int)) (ex k n v d)).n
 (tamP (3 : Int) (Int.toNat (4 : Int)) (ex k n v d)).v
 (dE (tamP (3 : Int) (Int.toNat (4 : Int)) (ex k n v d)).kids)).kids))
 (ex
 (ex (tamP (3 : Int) (Int.toNat (4 : Int)) (ex k2 n2 v2 d2)).k
 (tamP (3 : Int) (Int.toNat (4 : Int)) (ex k2 n2 v2 d2)).n
 (tamP (3 : Int) (Int.toNat (4 : Int)) (ex k2 n2 v2 d2)).v
 (dE (tamP (3 : Int) (Int.toNat (4 : Int)) (ex k2 n2 v2 d2)).kids)).k
 (ex (tamP (3 : Int) (Int.toNat (4 : Int)) (ex k2 n2 v2 d2)).k
 (tamP (3 : Int) (Int.toNat (4 : Int)) (ex k2 n2 v2 d2)).n
 (tamP (3 : Int) (Int.toNat (4 : Int)) (ex k2 n2 v2 d2)).v
 (dE (tamP (3 : Int) (Int.toNat (4 : Int)) (ex k2 n2 v2 d2)).kids)).n
 (ex (tamP (3 : Int) (Int.toNat (4 : Int)) (ex k2 n2 v2 d2)).k
 (tamP (3 : Int) (Int.toNat (4 : Int)) (ex k2 n2 v2 d2)).n
 (tamP (3 : Int) (Int.toNat (4 : Int)) (ex k2 n2 v2 d2)).v
 (dE (tamP (3 : Int) (Int.toNat (4 : Int)) (ex k2 n2 v2 d2)).kids)).v
 (dE
 (ex (tamP (3 : Int) (Int.toNat (4 : Int)) (ex k2 n2 v2 d2)).k
 (tamP (3 : Int) (Int.toNat (4 : Int)) (ex k2 n2 v2 d2)).n
 (tamP (3 : Int) (Int.toNat (4 : Int)) (ex k2 n2 v2 d2)).v
 (dE (tamP (3 : Int) (Int.toNat (4 : Int)) (ex k2 n2 v2 d2)).kids)).kids))
 ((jnZ (3 : Int) (rowZ (3 : Int) a (3 : Nat)) (rowZ (3 : Int) b (3 : Nat))).fst,
 (jnZ (3 : Int) (rowZ (3 : Int) a (3 : Nat)) (rowZ (3 : Int) b (3 : Nat))).snd)).fst).len ≤
 (1000 : Nat)) ∧
 ((!nrightP
 (asmZ (3 : Int) i
 (ex
 (ex (tamP (3 : Int) (Int.toNat (4 : Int)) (ex k n v d)).k
 (tamP (3 : Int) (Int.toNat (4 : Int)) (ex k n v d)).n
 (tamP (3 : Int) (Int.toNat (4 : Int)) (ex k n v d)).v
 (dE (tamP (3 : Int) (Int.toNat (4 : Int)) (ex k n v d)).kids)).k
 (ex (tamP (3 : Int) (Int.toNat (4 : Int)) (ex k n v d)).k
 (tamP (3 : Int) (Int.toNat (4 : Int)) (ex k n v d)).n
 (tamP (3 : Int) (Int.toNat (4 : Int)) (ex k n v d)).v
 (dE (tamP (3 : Int) (Int.toNat (4 : Int)) (ex k n v d)).kids)).n
 (ex (tamP (3 : Int) (Int.toNat (4 : Int)) (ex k n v d)).k
 (tamP (3 : Int) (Int.toNat (4 : Int)) (ex k n v d)).n
 (tamP (3 : Int) (Int.toNat (4 : Int)) (ex k n v d)).v
 (dE (tamP (3 : Int) (Int.toNat (4 : Int)) (ex k n v d)).kids)).v
 (dE
 (ex (tamP (3 : Int) (Int.toNat (4 : Int)) (ex k n v d)).k
 (tamP (3 : Int) (Int.toNat (4 : Int)) (ex k n v d)).n
 (tamP (3 : Int) (Int.toNat (4 : Int)) (ex k n v d)).v
 (dE (tamP (3 : Int) (Int.toNat (4 : Int)) (ex k n v d)).kids)).kids))
 (ex
 (ex (tamP (3 : Int) (Int.toNat (4 : Int)) (ex k2 n2 v2 d2)).k
 (tamP (3 : Int) (Int.toNat (4 : Int)) (ex k2 n2 v2 d2)).n
 (tamP (3 : Int) (Int.toNat (4 : Int)) (ex k2 n2 v2 d2)).v
 (dE (tamP (3 : Int) (Int.toNat (4 : Int)) (ex k2 n2 v2 d2)).kids)).k
 (ex (tamP (3 : Int) (Int.toNat (4 : Int)) (ex k2 n2 v2 d2)).k
 (tamP (3 : Int) (Int.toNat (4 : Int)) (ex k2 n2 v2 d2)).n
 (tamP (3 : Int) (Int.toNat (4 : Int)) (ex k2 n2 v2 d2)).v
 (dE (tamP (3 : Int) (Int.toNat (4 : Int)) (ex k2 n2 v2 d2)).kids)).n
 (ex (tamP (3 : Int) (Int.toNat (4 : Int)) (ex k2 n2 v2 d2)).k
 (tamP (3 : Int) (Int.toNat (4 : Int)) (ex k2 n2 v2 d2)).n
 (tamP (3 : Int) (Int.toNat (4 : Int)) (ex k2 n2 v2 d2)).v
 (dE (tamP (3 : Int) (Int.toNat (4 : Int)) (ex k2 n2 v2 d2)).kids)).v
 (dE
 (ex (tamP (3 : Int) (Int.toNat (4 : Int)) (ex k2 n2 v2 d2)).k
 (tamP (3 : Int) (Int.toNat (4 : Int)) (ex k2 n2 v2 d2)).n
 (tamP (3 : Int) (Int.toNat (4 : Int)) (ex k2 n2 v2 d2)).v
 (dE (tamP (3 : Int) (Int.toNat (4 : Int)) (ex k2 n2 v2 d2)).kids)).kids))
 ((jnZ (3 : Int) (rowZ (3 : Int) a (3 : Nat)) (rowZ (3 : Int) b (3 : Nat))).fst,
 (jnZ (3 : Int) (rowZ (3 : Int) a (3 : Nat)) (rowZ (3 : Int) b (3 : Nat))).snd)).fst.fst
 (itD (Int.toNat (3 : Int)) (3 : Int)
 (asmZ (3 : Int) i
 (ex
 (ex (tamP (3 : Int) (Int.toNat (4 : Int)) (ex k n v d)).k
 (tamP (3 : Int) (Int.toNat (4 : Int)) (ex k n v d)).n
 (tamP (3 : Int) (Int.toNat (4 : Int)) (ex k n v d)).v
 (dE (tamP (3 : Int) (Int.toNat (4 : Int)) (ex k n v d)).kids)).k
 (ex (tamP (3 : Int) (Int.toNat (4 : Int)) (ex k n v d)).k
 (tamP (3 : Int) (Int.toNat (4 : Int)) (ex k n v d)).n
 (tamP (3 : Int) (Int.toNat (4 : Int)) (ex k n v d)).v
 (dE (tamP (3 : Int) (Int.toNat (4 : Int)) (ex k n v d)).kids)).n
 (ex (tamP (3 : Int) (Int.toNat (4 : Int)) (ex k n v d)).k
 (tamP (3 : Int) (Int.toNat (4 : Int)) (ex k n v d)).n
 (tamP (3 : Int) (Int.toNat (4 : Int)) (ex k n v d)).v
 (dE (tamP (3 : Int) (Int.toNat (4 : Int)) (ex k n v d)).kids)).v
 (dE
 (ex (tamP (3 : Int) (Int.toNat (4 : Int)) (ex k n v d)).k
 (tamP (3 : Int) (Int.toNat (4 : Int)) (ex k n v d)).n
 (tamP (3 : Int) (Int.toNat (4 : Int)) (ex k n v d)).v
 (dE (tamP (3 : Int) (Int.toNat (4 : Int)) (ex k n v d)).kids)).kids))
 (ex
 (ex (tamP (3 : Int) (Int.toNat (4 : Int)) (ex k2 n2 v2 d2)).k
 (tamP (3 : Int) (Int.toNat (4 : Int)) (ex k2 n2 v2 d2)).n
 (tamP (3 : Int) (Int.toNat (4 : Int)) (ex k2 n2 v2 d2)).v
 (dE (tamP (3 : Int) (Int.toNat (4 : Int)) (ex k2 n2 v2 d2)).kids)).k
 (ex (tamP (3 : Int) (Int.toNat (4 : Int)) (ex k2 n2 v2 d2)).k
 (tamP (3 : Int) (Int.toNat (4 : Int)) (ex k2 n2 v2 d2)).n
 (tamP (3 : Int) (Int.toNat (4 : Int)) (ex k2 n2 v2 d2)).v
 (dE (tamP (3 : Int) (Int.toNat (4 : Int)) (ex k2 n2 v2 d2)).kids)).n
 (ex (tamP (3 : Int) (Int.toNat (4 : Int)) (ex k2 n2 v2 d2)).k
 (tamP (3 : Int) (Int.toNat (4 : Int)) (ex k2 n2 v2 d2)).n
 (tamP (3 : Int) (Int.toNat (4 : Int)) (ex k2 n2 v2 d2)).v
 (dE (tamP (3 : Int) (Int.toNat (4 : Int)) (ex k2 n2 v2 d2)).kids)).v
 (dE
 (ex (tamP (3 : Int) (Int.toNat (4 : Int)) (ex k2 n2 v2 d2)).k
 (tamP (3 : Int) (Int.toNat (4 : Int)) (ex k2 n2 v2 d2)).n
 (tamP (3 : Int) (Int.toNat (4 : Int)) (ex k2 n2 v2 d2)).v
 (dE (tamP (3 : Int) (Int.toNat (4 : Int)) (ex k2 n2 v2 d2)).kids)).kids))
 ((jnZ (3 : Int) (rowZ (3 : Int) a (3 : Nat)) (rowZ (3 : Int) b (3 : Nat))).fst,
 (jnZ (3 : Int) (rowZ (3 : Int) a (3 : Nat)) (rowZ (3 : Int) b (3 : Nat))).snd)).fst)
 (3 : Int)
 (asmZ (3 : Int) i
 (ex
 (ex (tamP (3 : Int) (Int.toNat (4 : Int)) (ex k n v d)).k
 (tamP (3 : Int) (Int.toNat (4 : Int)) (ex k n v d)).n
 (tamP (3 : Int) (Int.toNat (4 : Int)) (ex k n v d)).v
 (dE (tamP (3 : Int) (Int.toNat (4 : Int)) (ex k n v d)).kids)).k
 (ex (tamP (3 : Int) (Int.toNat (4 : Int)) (ex k n v d)).k
 (tamP (3 : Int) (Int.toNat (4 : Int)) (ex k n v d)).n
 (tamP (3 : Int) (Int.toNat (4 : Int)) (ex k n v d)).v
 (dE (tamP (3 : Int) (Int.toNat (4 : Int)) (ex k n v d)).kids)).n
 (ex (tamP (3 : Int) (Int.toNat (4 : Int)) (ex k n v d)).k
 (tamP (3 : Int) (Int.toNat (4 : Int)) (ex k n v d)).n
 (tamP (3 : Int) (Int.toNat (4 : Int)) (ex k n v d)).v
 (dE (tamP (3 : Int) (Int.toNat (4 : Int)) (ex k n v d)).kids)).v
 (dE
 (ex (tamP (3 : Int) (Int.toNat (4 : Int)) (ex k n v d)).k
 (tamP (3 : Int) (Int.toNat (4 : Int)) (ex k n v d)).n
 (tamP (3 : Int) (Int.toNat (4 : Int)) (ex k n v d)).v
 (dE (tamP (3 : Int) (Int.toNat (4 : Int)) (ex k n v d)).kids)).kids))
 (ex
 (ex (tamP (3 : Int) (Int.toNat (4 : Int)) (ex k2 n2 v2 d2)).k
 (tamP (3 : Int) (Int.toNat (4 : Int)) (ex k2 n2 v2 d2)).n
 (tamP (3 : Int) (Int.toNat (4 : Int)) (ex k2 n2 v2 d2)).v
 (dE (tamP (3 : Int) (Int.toNat (4 : Int)) (ex k2 n2 v2 d2)).kids)).k
 (ex (tamP (3 : Int) (Int.toNat (4 : Int)) (ex k2 n2 v2 d2)).k
 (tamP (3 : Int) (Int.toNat (4 : Int)) (ex k2 n2 v2 d2)).n
 (tamP (3 : Int) (Int.toNat (4 : Int)) (ex k2 n2 v2 d2)).v
 (dE (tamP (3 : Int) (Int.toNat (4 : Int)) (ex k2 n2 v2 d2)).kids)).n
 (ex (tamP (3 : Int) (Int.toNat (4 : Int)) (ex k2 n2 v2 d2)).k
 (tamP (3 : Int) (Int.toNat (4 : Int)) (ex k2 n2 v2 d2)).n
 (tamP (3 : Int) (Int.toNat (4 : Int)) (ex k2 n2 v2 d2)).v
 (dE (tamP (3 : Int) (Int.toNat (4 : Int)) (ex k2 n2 v2 d2)).kids)).v
 (dE
 (ex (tamP (3 : Int) (Int.toNat (4 : Int)) (ex k2 n2 v2 d2)).k
 (tamP (3 : Int) (Int.toNat (4 : Int)) (ex k2 n2 v2 d2)).n
 (tamP (3 : Int) (Int.toNat (4 : Int)) (ex k2 n2 v2 d2)).v
 (dE (tamP (3 : Int) (Int.toNat (4 : Int)) (ex k2 n2 v2 d2)).kids)).kids))
 ((jnZ (3 : Int) (rowZ (3 : Int) a (3 : Nat)) (rowZ (3 : Int) b (3 : Nat))).fst,
 (jnZ (3 : Int) (rowZ (3 : Int) a (3 : Nat)) (rowZ (3 : Int) b (3 : Nat))).snd)).fst.fst
 (asmZ (3 : Int) i
 (ex
 (ex (tamP (3 : Int) (Int.toNat (4 : Int)) (ex k n v d)).k
 (tamP (3 : Int) (Int.toNat (4 : Int)) (ex k n v d)).n
 (tamP (3 : Int) (Int.toNat (4 : Int)) (ex k n v d)).v
 (dE (tamP (3 : Int) (Int.toNat (4 : Int)) (ex k n v d)).kids)).k
 (ex (tamP (3 : Int) (Int.toNat (4 : Int)) (ex k n v d)).k
 (tamP (3 : Int) (Int.toNat (4 : Int)) (ex k n v d)).n
 (tamP (3 : Int) (Int.toNat (4 : Int)) (ex k n v d)).v
 (dE (tamP (3 : Int) (Int.toNat (4 : Int)) (ex k n v d)).kids)).n
 (ex (tamP (3 : Int) (Int.toNat (4 : Int)) (ex k n v d)).k
 (tamP (3 : Int) (Int.toNat (4 : Int)) (ex k n v d)).n
 (tamP (3 : Int) (Int.toNat (4 : Int)) (ex k n v d)).v
 (dE (tamP (3 : Int) (Int.toNat (4 : Int)) (ex k n v d)).kids)).v
 (dE
 (ex (tamP (3 : Int) (Int.toNat (4 : Int)) (ex k n v d)).k
 (tamP (3 : Int) (Int.toNat (4 : Int)) (ex k n v d)).n
 (tamP (3 : Int) (Int.toNat (4 : Int)) (ex k n v d)).v
 (dE (tamP (3 : Int) (Int.toNat (4 : Int)) (ex k n v d)).kids)).kids))
 (ex
 (ex (tamP (3 : Int) (Int.toNat (4 : Int)) (ex k2 n2 v2 d2)).k
 (tamP (3 : Int) (Int.toNat (4 : Int)) (ex k2 n2 v2 d2)).n
 (tamP (3 : Int) (Int.toNat (4 : Int)) (ex k2 n2 v2 d2)).v
 (dE (tamP (3 : Int) (Int.toNat (4 : Int)) (ex k2 n2 v2 d2)).kids)).k
 (ex (tamP (3 : Int) (Int.toNat (4 : Int)) (ex k2 n2 v2 d2)).k
 (tamP (3 : Int) (Int.toNat (4 : Int)) (ex k2 n2 v2 d2)).n
 (tamP (3 : Int) (Int.toNat (4 : Int)) (ex k2 n2 v2 d2)).v
 (dE (tamP (3 : Int) (Int.toNat (4 : Int)) (ex k2 n2 v2 d2)).kids)).n
 (ex (tamP (3 : Int) (Int.toNat (4 : Int)) (ex k2 n2 v2 d2)).k
 (tamP (3 : Int) (Int.toNat (4 : Int)) (ex k2 n2 v2 d2)).n
 (tamP (3 : Int) (Int.toNat (4 : Int)) (ex k2 n2 v2 d2)).v
 (dE (tamP (3 : Int) (Int.toNat (4 : Int)) (ex k2 n2 v2 d2)).kids)).v
 (dE
 (ex (tamP (3 : Int) (Int.toNat (4 : Int)) (ex k2 n2 v2 d2)).k
 (tamP (3 : Int) (Int.toNat (4 : Int)) (ex k2 n2 v2 d2)).n
 (tamP (3 : Int) (Int.toNat (4 : Int)) (ex k2 n2 v2 d2)).v
 (dE (tamP (3 : Int) (Int.toNat (4 : Int)) (ex k2 n2 v2 d2)).kids)).kids))
 ((jnZ (3 : Int) (rowZ (3 : Int) a (3 : Nat)) (rowZ (3 : Int) b (3 : Nat))).fst,
 (jnZ (3 : Int) (rowZ (3 : Int) a (3 : Nat)) (rowZ (3 : Int) b (3 : Nat))).snd)).fst.snd ||
 !withinP (3 : Int)
 (asmZ (3 : Int) i
 (ex
 (ex (tamP (3 : Int) (Int.toNat (4 : Int)) (ex k n v d)).k
 (tamP (3 : Int) (Int.toNat (4 : Int)) (ex k n v d)).n
 (tamP (3 : Int) (Int.toNat (4 : Int)) (ex k n v d)).v
 (dE (tamP (3 : Int) (Int.toNat (4 : Int)) (ex k n v d)).kids)).k
 (ex (tamP (3 : Int) (Int.toNat (4 : Int)) (ex k n v d)).k
 (tamP (3 : Int) (Int.toNat (4 : Int)) (ex k n v d)).n
 (tamP (3 : Int) (Int.toNat (4 : Int)) (ex k n v d)).v
 (dE (tamP (3 : Int) (Int.toNat (4 : Int)) (ex k n v d)).kids)).n
 (ex (tamP (3 : Int) (Int.toNat (4 : Int)) (ex k n v d)).k
 (tamP (3 : Int) (Int.toNat (4 : Int)) (ex k n v d)).n
 (tamP (3 : Int) (Int.toNat (4 : Int)) (ex k n v d)).v
 (dE (tamP (3 : Int) (Int.toNat (4 : Int)) (ex k n v d)).kids)).v
 (dE
 (ex (tamP (3 : Int) (Int.toNat (4 : Int)) (ex k n v d)).k
 (tamP (3 : Int) (Int.toNat (4 : Int)) (ex k n v d)).n
 (tamP (3 : Int) (Int.toNat (4 : Int)) (ex k n v d)).v
 (dE (tamP (3 : Int) (Int.toNat (4 : Int)) (ex k n v d)).kids)).kids))
 (ex
 (ex (tamP (3 : Int) (Int.toNat (4 : Int)) (ex k2 n2 v2 d2)).k
 (tamP (3 : Int) (Int.toNat (4 : Int)) (ex k2 n2 v2 d2)).n
 (tamP (3 : Int) (Int.toNat (4 : Int)) (ex k2 n2 v2 d2)).v
 (dE (tamP (3 : Int) (Int.toNat (4 : Int)) (ex k2 n2 v2 d2)).kids)).k
 (ex (tamP (3 : Int) (Int.toNat (4 : Int)) (ex k2 n2 v2 d2)).k
 (tamP (3 : Int) (Int.toNat (4 : Int)) (ex k2 n2 v2 d2)).n
 (tamP (3 : Int) (Int.toNat (4 : Int)) (ex k2 n2 v2 d2)).v
 (dE (tamP (3 : Int) (Int.toNat (4 : Int)) (ex k2 n2 v2 d2)).kids)).n
 (ex (tamP (3 : Int) (Int.toNat (4 : Int)) (ex k2 n2 v2 d2)).k
 (tamP (3 : Int) (Int.toNat (4 : Int)) (ex k2 n2 v2 d2)).n
 (tamP (3 : Int) (Int.toNat (4 : Int)) (ex k2 n2 v2 d2)).v
 (dE (tamP (3 : Int) (Int.toNat (4 : Int)) (ex k2 n2 v2 d2)).kids)).v
 (dE
 (ex (tamP (3 : Int) (Int.toNat (4 : Int)) (ex k2 n2 v2 d2)).k
 (tamP (3 : Int) (Int.toNat (4 : Int)) (ex k2 n2 v2 d2)).n
 (tamP (3 : Int) (Int.toNat (4 : Int)) (ex k2 n2 v2 d2)).v
 (dE (tamP (3 : Int) (Int.toNat (4 : Int)) (ex k2 n2 v2 d2)).kids)).kids))
 ((jnZ (3 : Int) (rowZ (3 : Int) a (3 : Nat)) (rowZ (3 : Int) b (3 : Nat))).fst,
 (jnZ (3 : Int) (rowZ (3 : Int) a (3 : Nat)) (rowZ (3 : Int) b (3 : Nat))).snd)).fst.fst
 (asmZ (3 : Int) i
 (ex
 (ex (tamP (3 : Int) (Int.toNat (4 : Int)) (ex k n v d)).k
 (tamP (3 : Int) (Int.toNat (4 : Int)) (ex k n v d)).n
 (tamP (3 : Int) (Int.toNat (4 : Int)) (ex k n v d)).v
 (dE (tamP (3 : Int) (Int.toNat (4 : Int)) (ex k n v d)).kids)).k
 (ex (tamP (3 : Int) (Int.toNat (4 : Int)) (ex k n v d)).k
 (tamP (3 : Int) (Int.toNat (4 : Int)) (ex k n v d)).n
 (tamP (3 : Int) (Int.toNat (4 : Int)) (ex k n v d)).v
 (dE (tamP (3 : Int) (Int.toNat (4 : Int)) (ex k n v d)).kids)).n
 (ex (tamP (3 : Int) (Int.toNat (4 : Int)) (ex k n v d)).k
 (tamP (3 : Int) (Int.toNat (4 : Int)) (ex k n v d)).n
 (tamP (3 : Int) (Int.toNat (4 : Int)) (ex k n v d)).v
 (dE (tamP (3 : Int) (Int.toNat (4 : Int)) (ex k n v d)).kids)).v
 (dE
 (ex (tamP (3 : Int) (Int.toNat (4 : Int)) (ex k n v d)).k
 (tamP (3 : Int) (Int.toNat (4 : Int)) (ex k n v d)).n
 (tamP (3 : Int) (Int.toNat (4 : Int)) (ex k n v d)).v
 (dE (tamP (3 : Int) (Int.toNat (4 : Int)) (ex k n v d)).kids)).kids))
 (ex
 (ex (tamP (3 : Int) (Int.toNat (4 : Int)) (ex k2 n2 v2 d2)).k
 (tamP (3 : Int) (Int.toNat (4 : Int)) (ex k2 n2 v2 d2)).n
 (tamP (3 : Int) (Int.toNat (4 : Int)) (ex k2 n2 v2 d2)).v
 (dE (tamP (3 : Int) (Int.toNat (4 : Int)) (ex k2 n2 v2 d2)).kids)).k
 (ex (tamP (3 : Int) (Int.toNat (4 : Int)) (ex k2 n2 v2 d2)).k
 (tamP (3 : Int) (Int.toNat (4 : Int)) (ex k2 n2 v2 d2)).n
 (tamP (3 : Int) (Int.toNat (4 : Int)) (ex k2 n2 v2 d2)).v
 (dE (tamP (3 : Int) (Int.toNat (4 : Int)) (ex k2 n2 v2 d2)).kids)).n
 (ex (tamP (3 : Int) (Int.toNat (4 : Int)) (ex k2 n2 v2 d2)).k
 (tamP (3 : Int) (Int.toNat (4 : Int)) (ex k2 n2 v2 d2)).n
 (tamP (3 : Int) (Int.toNat (4 : Int)) (ex k2 n2 v2 d2)).v
 (dE (tamP (3 : Int) (Int.toNat (4 : Int)) (ex k2 n2 v2 d2)).kids)).v
 (dE
 (ex (tamP (3 : Int) (Int.toNat (4 : Int)) (ex k2 n2 v2 d2)).k
 (tamP (3 : Int) (Int.toNat (4 : Int)) (ex k2 n2 v2 d2)).n
 (tamP (3 : Int) (Int.toNat (4 : Int)) (ex k2 n2 v2 d2)).v
 (dE (tamP (3 : Int) (Int.toNat (4 : Int)) (ex k2 n2 v2 d2)).kids)).kids))
 ((jnZ (3 : Int) (rowZ (3 : Int) a (3 : Nat)) (rowZ (3 : Int) b (3 : Nat))).fst,
 (jnZ (3 : Int) (rowZ (3 : Int) a (3 : Nat)) (rowZ (3 : Int) b (3 : Nat))).snd)).fst.snd
 (3 : Int) (jnZ (3 : Int) (rowZ (3 : Int) a (3 : Nat)) (rowZ (3 : Int) b (3 : Nat))).fst
 (jnZ (3 : Int) (rowZ (3 : Int) a (3 : Nat)) (rowZ (3 : Int) b (3 : Nat))).snd ||
 (hldT i
 (evT (vD (rowI (3 : Nat) (hz fun (j : Nat) => if c = true then b j else a j)))
 (ex (tamP (3 : Int) (Int.toNat (4 : Int)) (ex k n v d)).k
 (tamP (3 : Int) (Int.toNat (4 : Int)) (ex k n v d)).n
 (tamP (3 : Int) (Int.toNat (4 : Int)) (ex k n v d)).v
 (dE (tamP (3 : Int) (Int.toNat (4 : Int)) (ex k n v d)).kids)))
 (evT (vD (rowI (3 : Nat) (hz fun (j : Nat) => if c = true then b j else a j)))
 (ex (tamP (3 : Int) (Int.toNat (4 : Int)) (ex k2 n2 v2 d2)).k
 (tamP (3 : Int) (Int.toNat (4 : Int)) (ex k2 n2 v2 d2)).n
 (tamP (3 : Int) (Int.toNat (4 : Int)) (ex k2 n2 v2 d2)).v
 (dE (tamP (3 : Int) (Int.toNat (4 : Int)) (ex k2 n2 v2 d2)).kids)))).snd ==
 (2 : Int) &&
 !(asmZ (3 : Int) i
 (ex
 (ex (tamP (3 : Int) (Int.toNat (4 : Int)) (ex k n v d)).k
 (tamP (3 : Int) (Int.toNat (4 : Int)) (ex k n v d)).n
 (tamP (3 : Int) (Int.toNat (4 : Int)) (ex k n v d)).v
 (dE (tamP (3 : Int) (Int.toNat (4 : Int)) (ex k n v d)).kids)).k
 (ex (tamP (3 : Int) (Int.toNat (4 : Int)) (ex k n v d)).k
 (tamP (3 : Int) (Int.toNat (4 : Int)) (ex k n v d)).n
 (tamP (3 : Int) (Int.toNat (4 : Int)) (ex k n v d)).v
 (dE (tamP (3 : Int) (Int.toNat (4 : Int)) (ex k n v d)).kids)).n
 (ex (tamP (3 : Int) (Int.toNat (4 : Int)) (ex k n v d)).k
 (tamP (3 : Int) (Int.toNat (4 : Int)) (ex k n v d)).n
 (tamP (3 : Int) (Int.toNat (4 : Int)) (ex k n v d)).v
 (dE (tamP (3 : Int) (Int.toNat (4 : Int)) (ex k n v d)).kids)).v
 (dE
 (ex (tamP (3 : Int) (Int.toNat (4 : Int)) (ex k n v d)).k
 (tamP (3 : Int) (Int.toNat (4 : Int)) (ex k n v d)).n
 (tamP (3 : Int) (Int.toNat (4 : Int)) (ex k n v d)).v
 (dE (tamP (3 : Int) (Int.toNat (4 : Int)) (ex k n v d)).kids)).kids))
 (ex
 (ex (tamP (3 : Int) (Int.toNat (4 : Int)) (ex k2 n2 v2 d2)).k
 (tamP (3 : Int) (Int.toNat (4 : Int)) (ex k2 n2 v2 d2)).n
 (tamP (3 : Int) (Int.toNat (4 : Int)) (ex k2 n2 v2 d2)).v
 (dE (tamP (3 : Int) (Int.toNat (4 : Int)) (ex k2 n2 v2 d2)).kids)).k
 (ex (tamP (3 : Int) (Int.toNat (4 : Int)) (ex k2 n2 v2 d2)).k
 (tamP (3 : Int) (Int.toNat (4 : Int)) (ex k2 n2 v2 d2)).n
 (tamP (3 : Int) (Int.toNat (4 : Int)) (ex k2 n2 v2 d2)).v
 (dE (tamP (3 : Int) (Int.toNat (4 : Int)) (ex k2 n2 v2 d2)).kids)).n
 (ex (tamP (3 : Int) (Int.toNat (4 : Int)) (ex k2 n2 v2 d2)).k
 (tamP (3 : Int) (Int.toNat (4 : Int)) (ex k2 n2 v2 d2)).n
 (tamP (3 : Int) (Int.toNat (4 : Int)) (ex k2 n2 v2 d2)).v
 (dE (tamP (3 : Int) (Int.toNat (4 : Int)) (ex k2 n2 v2 d2)).kids)).v
 (dE
 (ex (tamP (3 : Int) (Int.toNat (4 : Int)) (ex k2 n2 v2 d2)).k
 (tamP (3 : Int) (Int.toNat (4 : Int)) (ex k2 n2 v2 d2)).n
 (tamP (3 : Int) (Int.toNat (4 : Int)) (ex k2 n2 v2 d2)).v
 (dE (tamP (3 : Int) (Int.toNat (4 : Int)) (ex k2 n2 v2 d2)).kids)).kids))
 ((jnZ (3 : Int) (rowZ (3 : Int) a (3 : Nat)) (rowZ (3 : Int) b (3 : Nat))).fst,
 (jnZ (3 : Int) (rowZ (3 : Int) a (3 : Nat)) (rowZ (3 : Int) b (3 : Nat))).snd)).snd.fst ||
 (hldT i
 (evT (vD (rowI (3 : Nat) (hz fun (j : Nat) => if c = true then b j else a j)))
 (ex (tamP (3 : Int) (Int.toNat (4 : Int)) (ex k n v d)).k
 (tamP (3 : Int) (Int.toNat (4 : Int)) (ex k n v d)).n
 (tamP (3 : Int) (Int.toNat (4 : Int)) (ex k n v d)).v
 (dE (tamP (3 : Int) (Int.toNat (4 : Int)) (ex k n v d)).kids)))
 (evT (vD (rowI (3 : Nat) (hz fun (j : Nat) => if c = true then b j else a j)))
 (ex (tamP (3 : Int) (Int.toNat (4 : Int)) (ex k2 n2 v2 d2)).k
 (tamP (3 : Int) (Int.toNat (4 : Int)) (ex k2 n2 v2 d2)).n
 (tamP (3 : Int) (Int.toNat (4 : Int)) (ex k2 n2 v2 d2)).v
 (dE (tamP (3 : Int) (Int.toNat (4 : Int)) (ex k2 n2 v2 d2)).kids)))).snd ==
 (3 : Int) &&
 !(asmZ (3 : Int) i
 (ex
 (ex (tamP (3 : Int) (Int.toNat (4 : Int)) (ex k n v d)).k
 (tamP (3 : Int) (Int.toNat (4 : Int)) (ex k n v d)).n
 (tamP (3 : Int) (Int.toNat (4 : Int)) (ex k n v d)).v
 (dE (tamP (3 : Int) (Int.toNat (4 : Int)) (ex k n v d)).kids)).k
 (ex (tamP (3 : Int) (Int.toNat (4 : Int)) (ex k n v d)).k
 (tamP (3 : Int) (Int.toNat (4 : Int)) (ex k n v d)).n
 (tamP (3 : Int) (Int.toNat (4 : Int)) (ex k n v d)).v
 (dE (tamP (3 : Int) (Int.toNat (4 : Int)) (ex k n v d)).kids)).n
 (ex (tamP (3 : Int) (Int.toNat (4 : Int)) (ex k n v d)).k
 (tamP (3 : Int) (Int.toNat (4 : Int)) (ex k n v d)).n
 (tamP (3 : Int) (Int.toNat (4 : Int)) (ex k n v d)).v
 (dE (tamP (3 : Int) (Int.toNat (4 : Int)) (ex k n v d)).kids)).v
 (dE
 (ex (tamP (3 : Int) (Int.toNat (4 : Int)) (ex k n v d)).k
 (tamP (3 : Int) (Int.toNat (4 : Int)) (ex k n v d)).n
 (tamP (3 : Int) (Int.toNat (4 : Int)) (ex k n v d)).v
 (dE (tamP (3 : Int) (Int.toNat (4 : Int)) (ex k n v d)).kids)).kids))
 (ex
 (ex (tamP (3 : Int) (Int.toNat (4 : Int)) (ex k2 n2 v2 d2)).k
 (tamP (3 : Int) (Int.toNat (4 : Int)) (ex k2 n2 v2 d2)).n
 (tamP (3 : Int) (Int.toNat (4 : Int)) (ex k2 n2 v2 d2)).v
 (dE (tamP (3 : Int) (Int.toNat (4 : Int)) (ex k2 n2 v2 d2)).kids)).k
 (ex (tamP (3 : Int) (Int.toNat (4 : Int)) (ex k2 n2 v2 d2)).k
 (tamP (3 : Int) (Int.toNat (4 : Int)) (ex k2 n2 v2 d2)).n
 (tamP (3 : Int) (Int.toNat (4 : Int)) (ex k2 n2 v2 d2)).v
 (dE (tamP (3 : Int) (Int.toNat (4 : Int)) (ex k2 n2 v2 d2)).kids)).n
 (ex (tamP (3 : Int) (Int.toNat (4 : Int)) (ex k2 n2 v2 d2)).k
 (tamP (3 : Int) (Int.toNat (4 : Int)) (ex k2 n2 v2 d2)).n
 (tamP (3 : Int) (Int.toNat (4 : Int)) (ex k2 n2 v2 d2)).v
 (dE (tamP (3 : Int) (Int.toNat (4 : Int)) (ex k2 n2 v2 d2)).kids)).v
 (dE
 (ex (tamP (3 : Int) (Int.toNat (4 : Int)) (ex k2 n2 v2 d2)).k
 (tamP (3 : Int) (Int.toNat (4 : Int)) (ex k2 n2 v2 d2)).n
 (tamP (3 : Int) (Int.toNat (4 : Int)) (ex k2 n2 v2 d2)).v
 (dE (tamP (3 : Int) (Int.toNat (4 : Int)) (ex k2 n2 v2 d2)).kids)).kids))
 ((jnZ (3 : Int) (rowZ (3 : Int) a (3 : Nat)) (rowZ (3 : Int) b (3 : Nat))).fst,
 (jnZ (3 : Int) (rowZ (3 : Int) a (3 : Nat)) (rowZ (3 : Int) b (3 : Nat))).snd)).snd.snd ||
 (hldT i
 (evT (vD (rowI (3 : Nat) (hz fun (j : Nat) => if c = true then b j else a j)))
 (ex (tamP (3 : Int) (Int.toNat (4 : Int)) (ex k n v d)).k
 (tamP (3 : Int) (Int.toNat (4 : Int)) (ex k n v d)).n
 (tamP (3 : Int) (Int.toNat (4 : Int)) (ex k n v d)).v
 (dE (tamP (3 : Int) (Int.toNat (4 : Int)) (ex k n v d)).kids)))
 (evT (vD (rowI (3 : Nat) (hz fun (j : Nat) => if c = true then b j else a j)))
 (ex (tamP (3 : Int) (Int.toNat (4 : Int)) (ex k2 n2 v2 d2)).k
 (tamP (3 : Int) (Int.toNat (4 : Int)) (ex k2 n2 v2 d2)).n
 (tamP (3 : Int) (Int.toNat (4 : Int)) (ex k2 n2 v2 d2)).v
 (dE (tamP (3 : Int) (Int.toNat (4 : Int)) (ex k2 n2 v2 d2)).kids)))).snd ==
 (0 : Int) &&
 (hldT i
 (evT (vD (rowI (3 : Nat) (hz fun (j : Nat) => if c = true then b j else a j)))
 (ex (tamP (3 : Int) (Int.toNat (4 : Int)) (ex k n v d)).k
 (tamP (3 : Int) (Int.toNat (4 : Int)) (ex k n v d)).n
 (tamP (3 : Int) (Int.toNat (4 : Int)) (ex k n v d)).v
 (dE (tamP (3 : Int) (Int.toNat (4 : Int)) (ex k n v d)).kids)))
 (evT (vD (rowI (3 : Nat) (hz fun (j : Nat) => if c = true then b j else a j)))
 (ex (tamP (3 : Int) (Int.toNat (4 : Int)) (ex k2 n2 v2 d2)).k
 (tamP (3 : Int) (Int.toNat (4 : Int)) (ex k2 n2 v2 d2)).n
 (tamP (3 : Int) (Int.toNat (4 : Int)) (ex k2 n2 v2 d2)).v
 (dE (tamP (3 : Int) (Int.toNat (4 : Int)) (ex k2 n2 v2 d2)).kids)))).fst &&
 !nhasP
 (asmZ (3 : Int) i
 (ex
 (ex (tamP (3 : Int) (Int.toNat (4 : Int)) (ex k n v d)).k
 (tamP (3 : Int) (Int.toNat (4 : Int)) (ex k n v d)).n
 (tamP (3 : Int) (Int.toNat (4 : Int)) (ex k n v d)).v
 (dE (tamP (3 : Int) (Int.toNat (4 : Int)) (ex k n v d)).kids)).k
 (ex (tamP (3 : Int) (Int.toNat (4 : Int)) (ex k n v d)).k
 (tamP (3 : Int) (Int.toNat (4 : Int)) (ex k n v d)).n
 (tamP (3 : Int) (Int.toNat (4 : Int)) (ex k n v d)).v
 (dE (tamP (3 : Int) (Int.toNat (4 : Int)) (ex k n v d)).kids)).n
 (ex (tamP (3 : Int) (Int.toNat (4 : Int)) (ex k n v d)).k
 (tamP (3 : Int) (Int.toNat (4 : Int)) (ex k n v d)).n
 (tamP (3 : Int) (Int.toNat (4 : Int)) (ex k n v d)).v
 (dE (tamP (3 : Int) (Int.toNat (4 : Int)) (ex k n v d)).kids)).v
 (dE
 (ex (tamP (3 : Int) (Int.toNat (4 : Int)) (ex k n v d)).k
 (tamP (3 : Int) (Int.toNat (4 : Int)) (ex k n v d)).n
 (tamP (3 : Int) (Int.toNat (4 : Int)) (ex k n v d)).v
 (dE (tamP (3 : Int) (Int.toNat (4 : Int)) (ex k n v d)).kids)).kids))
 (ex
 (ex (tamP (3 : Int) (Int.toNat (4 : Int)) (ex k2 n2 v2 d2)).k
 (tamP (3 : Int) (Int.toNat (4 : Int)) (ex k2 n2 v2 d2)).n
 (tamP (3 : Int) (Int.toNat (4 : Int)) (ex k2 n2 v2 d2)).v
 (dE (tamP (3 : Int) (Int.toNat (4 : Int)) (ex k2 n2 v2 d2)).kids)).k
 (ex (tamP (3 : Int) (Int.toNat (4 : Int)) (ex k2 n2 v2 d2)).k
 (tamP (3 : Int) (Int.toNat (4 : Int)) (ex k2 n2 v2 d2)).n
 (tamP (3 : Int) (Int.toNat (4 : Int)) (ex k2 n2 v2 d2)).v
 (dE (tamP (3 : Int) (Int.toNat (4 : Int)) (ex k2 n2 v2 d2)).kids)).n
 (ex (tamP (3 : Int) (Int.toNat (4 : Int)) (ex k2 n2 v2 d2)).k
 (tamP (3 : Int) (Int.toNat (4 : Int)) (ex k2 n2 v2 d2)).n
 (tamP (3 : Int) (Int.toNat (4 : Int)) (ex k2 n2 v2 d2)).v
 (dE (tamP (3 : Int) (Int.toNat (4 : Int)) (ex k2 n2 v2 d2)).kids)).v
 (dE
 (ex (tamP (3 : Int) (Int.toNat (4 : Int)) (ex k2 n2 v2 d2)).k
 (tamP (3 : Int) (Int.toNat (4 : Int)) (ex k2 n2 v2 d2)).n
 (tamP (3 : Int) (Int.toNat (4 : Int)) (ex k2 n2 v2 d2)).v
 (dE (tamP (3 : Int) (Int.toNat (4 : Int)) (ex k2 n2 v2 d2)).kids)).kids))
 ((jnZ (3 : Int) (rowZ (3 : Int) a (3 : Nat)) (rowZ (3 : Int) b (3 : Nat))).fst,
 (jnZ (3 : Int) (rowZ (3 : Int) a (3 : Nat)) (rowZ (3 : Int) b (3 : Nat))).snd)).fst.fst
 (itD (Int.toNat (3 : Int)) (3 : Int)
 (asmZ (3 : Int) i
 (ex
 (ex (tamP (3 : Int) (Int.toNat (4 : Int)) (ex k n v d)).k
 (tamP (3 : Int) (Int.toNat (4 : Int)) (ex k n v d)).n
 (tamP (3 : Int) (Int.toNat (4 : Int)) (ex k n v d)).v
 (dE (tamP (3 : Int) (Int.toNat (4 : Int)) (ex k n v d)).kids)).k
 (ex (tamP (3 : Int) (Int.toNat (4 : Int)) (ex k n v d)).k
 (tamP (3 : Int) (Int.toNat (4 : Int)) (ex k n v d)).n
 (tamP (3 : Int) (Int.toNat (4 : Int)) (ex k n v d)).v
 (dE (tamP (3 : Int) (Int.toNat (4 : Int)) (ex k n v d)).kids)).n
 (ex (tamP (3 : Int) (Int.toNat (4 : Int)) (ex k n v d)).k
 (tamP (3 : Int) (Int.toNat (4 : Int)) (ex k n v d)).n
 (tamP (3 : Int) (Int.toNat (4 : Int)) (ex k n v d)).v
 (dE (tamP (3 : Int) (Int.toNat (4 : Int)) (ex k n v d)).kids)).v
 (dE
 (ex (tamP (3 : Int) (Int.toNat (4 : Int)) (ex k n v d)).k
 (tamP (3 : Int) (Int.toNat (4 : Int)) (ex k n v d)).n
 (tamP (3 : Int) (Int.toNat (4 : Int)) (ex k n v d)).v
 (dE (tamP (3 : Int) (Int.toNat (4 : Int)) (ex k n v d)).kids)).kids))
 (ex
 (ex (tamP (3 : Int) (Int.toNat (4 : Int)) (ex k2 n2 v2 d2)).k
 (tamP (3 : Int) (Int.toNat (4 : Int)) (ex k2 n2 v2 d2)).n
 (tamP (3 : Int) (Int.toNat (4 : Int)) (ex k2 n2 v2 d2)).v
 (dE (tamP (3 : Int) (Int.toNat (4 : Int)) (ex k2 n2 v2 d2)).kids)).k
 (ex (tamP (3 : Int) (Int.toNat (4 : Int)) (ex k2 n2 v2 d2)).k
 (tamP (3 : Int) (Int.toNat (4 : Int)) (ex k2 n2 v2 d2)).n
 (tamP (3 : Int) (Int.toNat (4 : Int)) (ex k2 n2 v2 d2)).v
 (dE (tamP (3 : Int) (Int.toNat (4 : Int)) (ex k2 n2 v2 d2)).kids)).n
 (ex (tamP (3 : Int) (Int.toNat (4 : Int)) (ex k2 n2 v2 d2)).k
 (tamP (3 : Int) (Int.toNat (4 : Int)) (ex k2 n2 v2 d2)).n
 (tamP (3 : Int) (Int.toNat (4 : Int)) (ex k2 n2 v2 d2)).v
 (dE (tamP (3 : Int) (Int.toNat (4 : Int)) (ex k2 n2 v2 d2)).kids)).v
 (dE
 (ex (tamP (3 : Int) (Int.toNat (4 : Int)) (ex k2 n2 v2 d2)).k
 (tamP (3 : Int) (Int.toNat (4 : Int)) (ex k2 n2 v2 d2)).n
 (tamP (3 : Int) (Int.toNat (4 : Int)) (ex k2 n2 v2 d2)).v
 (dE (tamP (3 : Int) (Int.toNat (4 : Int)) (ex k2 n2 v2 d2)).kids)).kids))
 ((jnZ (3 : Int) (rowZ (3 : Int) a (3 : Nat)) (rowZ (3 : Int) b (3 : Nat))).fst,
 (jnZ (3 : Int) (rowZ (3 : Int) a (3 : Nat)) (rowZ (3 : Int) b (3 : Nat))).snd)).fst)
 (3 : Int)
 (asmZ (3 : Int) i
 (ex
 (ex (tamP (3 : Int) (Int.toNat (4 : Int)) (ex k n v d)).k
 (tamP (3 : Int) (Int.toNat (4 : Int)) (ex k n v d)).n
 (tamP (3 : Int) (Int.toNat (4 : Int)) (ex k n v d)).v
 (dE (tamP (3 : Int) (Int.toNat (4 : Int)) (ex k n v d)).kids)).k
 (ex (tamP (3 : Int) (Int.toNat (4 : Int)) (ex k n v d)).k
 (tamP (3 : Int) (Int.toNat (4 : Int)) (ex k n v d)).n
 (tamP (3 : Int) (Int.toNat (4 : Int)) (ex k n v d)).v
 (dE (tamP (3 : Int) (Int.toNat (4 : Int)) (ex k n v d)).kids)).n
 (ex (tamP (3 : Int) (Int.toNat (4 : Int)) (ex k n v d)).k
 (tamP (3 : Int) (Int.toNat (4 : Int)) (ex k n v d)).n
 (tamP (3 : Int) (Int.toNat (4 : Int)) (ex k n v d)).v
 (dE (tamP (3 : Int) (Int.toNat (4 : Int)) (ex k n v d)).kids)).v
 (dE
 (ex (tamP (3 : Int) (Int.toNat (4 : Int)) (ex k n v d)).k
 (tamP (3 : Int) (Int.toNat (4 : Int)) (ex k n v d)).n
 (tamP (3 : Int) (Int.toNat (4 : Int)) (ex k n v d)).v
 (dE (tamP (3 : Int) (Int.toNat (4 : Int)) (ex k n v d)).kids)).kids))
 (ex
 (ex (tamP (3 : Int) (Int.toNat (4 : Int)) (ex k2 n2 v2 d2)).k
 (tamP (3 : Int) (Int.toNat (4 : Int)) (ex k2 n2 v2 d2)).n
 (tamP (3 : Int) (Int.toNat (4 : Int)) (ex k2 n2 v2 d2)).v
 (dE (tamP (3 : Int) (Int.toNat (4 : Int)) (ex k2 n2 v2 d2)).kids)).k
 (ex (tamP (3 : Int) (Int.toNat (4 : Int)) (ex k2 n2 v2 d2)).k
 (tamP (3 : Int) (Int.toNat (4 : Int)) (ex k2 n2 v2 d2)).n
 (tamP (3 : Int) (Int.toNat (4 : Int)) (ex k2 n2 v2 d2)).v
 (dE (tamP (3 : Int) (Int.toNat (4 : Int)) (ex k2 n2 v2 d2)).kids)).n
 (ex (tamP (3 : Int) (Int.toNat (4 : Int)) (ex k2 n2 v2 d2)).k
 (tamP (3 : Int) (Int.toNat (4 : Int)) (ex k2 n2 v2 d2)).n
 (tamP (3 : Int) (Int.toNat (4 : Int)) (ex k2 n2 v2 d2)).v
 (dE (tamP (3 : Int) (Int.toNat (4 : Int)) (ex k2 n2 v2 d2)).kids)).v
 (dE
 (ex (tamP (3 : Int) (Int.toNat (4 : Int)) (ex k2 n2 v2 d2)).k
 (tamP (3 : Int) (Int.toNat (4 : Int)) (ex k2 n2 v2 d2)).n
 (tamP (3 : Int) (Int.toNat (4 : Int)) (ex k2 n2 v2 d2)).v
 (dE (tamP (3 : Int) (Int.toNat (4 : Int)) (ex k2 n2 v2 d2)).kids)).kids))
 ((jnZ (3 : Int) (rowZ (3 : Int) a (3 : Nat)) (rowZ (3 : Int) b (3 : Nat))).fst,
 (jnZ (3 : Int) (rowZ (3 : Int) a (3 : Nat)) (rowZ (3 : Int) b (3 : Nat))).snd)).fst.fst
 (asmZ (3 : Int) i
 (ex
 (ex (tamP (3 : Int) (Int.toNat (4 : Int)) (ex k n v d)).k
 (tamP (3 : Int) (Int.toNat (4 : Int)) (ex k n v d)).n
 (tamP (3 : Int) (Int.toNat (4 : Int)) (ex k n v d)).v
 (dE (tamP (3 : Int) (Int.toNat (4 : Int)) (ex k n v d)).kids)).k
 (ex (tamP (3 : Int) (Int.toNat (4 : Int)) (ex k n v d)).k
 (tamP (3 : Int) (Int.toNat (4 : Int)) (ex k n v d)).n
 (tamP (3 : Int) (Int.toNat (4 : Int)) (ex k n v d)).v
 (dE (tamP (3 : Int) (Int.toNat (4 : Int)) (ex k n v d)).kids)).n
 (ex (tamP (3 : Int) (Int.toNat (4 : Int)) (ex k n v d)).k
 (tamP (3 : Int) (Int.toNat (4 : Int)) (ex k n v d)).n
 (tamP (3 : Int) (Int.toNat (4 : Int)) (ex k n v d)).v
 (dE (tamP (3 : Int) (Int.toNat (4 : Int)) (ex k n v d)).kids)).v
 (dE
 (ex (tamP (3 : Int) (Int.toNat (4 : Int)) (ex k n v d)).k
 (tamP (3 : Int) (Int.toNat (4 : Int)) (ex k n v d)).n
 (tamP (3 : Int) (Int.toNat (4 : Int)) (ex k n v d)).v
 (dE (tamP (3 : Int) (Int.toNat (4 : Int)) (ex k n v d)).kids)).kids))
 (ex
 (ex (tamP (3 : Int) (Int.toNat (4 : Int)) (ex k2 n2 v2 d2)).k
 (tamP (3 : Int) (Int.toNat (4 : Int)) (ex k2 n2 v2 d2)).n
 (tamP (3 : Int) (Int.toNat (4 : Int)) (ex k2 n2 v2 d2)).v
 (dE (tamP (3 : Int) (Int.toNat (4 : Int)) (ex k2 n2 v2 d2)).kids)).k
 (ex (tamP (3 : Int) (Int.toNat (4 : Int)) (ex k2 n2 v2 d2)).k
 (tamP (3 : Int) (Int.toNat (4 : Int)) (ex k2 n2 v2 d2)).n
 (tamP (3 : Int) (Int.toNat (4 : Int)) (ex k2 n2 v2 d2)).v
 (dE (tamP (3 : Int) (Int.toNat (4 : Int)) (ex k2 n2 v2 d2)).kids)).n
 (ex (tamP (3 : Int) (Int.toNat (4 : Int)) (ex k2 n2 v2 d2)).k
 (tamP (3 : Int) (Int.toNat (4 : Int)) (ex k2 n2 v2 d2)).n
 (tamP (3 : Int) (Int.toNat (4 : Int)) (ex k2 n2 v2 d2)).v
 (dE (tamP (3 : Int) (Int.toNat (4 : Int)) (ex k2 n2 v2 d2)).kids)).v
 (dE
 (ex (tamP (3 : Int) (Int.toNat (4 : Int)) (ex k2 n2 v2 d2)).k
 (tamP (3 : Int) (Int.toNat (4 : Int)) (ex k2 n2 v2 d2)).n
 (tamP (3 : Int) (Int.toNat (4 : Int)) (ex k2 n2 v2 d2)).v
 (dE (tamP (3 : Int) (Int.toNat (4 : Int)) (ex k2 n2 v2 d2)).kids)).kids))
 ((jnZ (3 : Int) (rowZ (3 : Int) a (3 : Nat)) (rowZ (3 : Int) b (3 : Nat))).fst,
 (jnZ (3 : Int) (rowZ (3 : Int) a (3 : Nat)) (rowZ (3 : Int) b (3 : Nat))).snd)).fst.snd
 (rowI (3 : Nat) (hz fun (j : Nat) => if c = true then b j else a j))) =
 true →
 false = true) ∧
 ((!nrightP
 (asmZ (3 : Int) i
 (ex
 (ex (tamP (3 : Int) (Int.toNat (4 : Int)) (ex k n v d)).k
 (tamP (3 : Int) (Int.toNat (4 : Int)) (ex k n v d)).n
 (tamP (3 : Int) (Int.toNat (4 : Int)) (ex k n v d)).v
 (dE (tamP (3 : Int) (Int.toNat (4 : Int)) (ex k n v d)).kids)).k
 (ex (tamP (3 : Int) (Int.toNat (4 : Int)) (ex k n v d)).k
 (tamP (3 : Int) (Int.toNat (4 : Int)) (ex k n v d)).n
 (tamP (3 : Int) (Int.toNat (4 : Int)) (ex k n v d)).v
 (dE (tamP (3 : Int) (Int.toNat (4 : Int)) (ex k n v d)).kids)).n
 (ex (tamP (3 : Int) (Int.toNat (4 : Int)) (ex k n v d)).k
 (tamP (3 : Int) (Int.toNat (4 : Int)) (ex k n v d)).n
 (tamP (3 : Int) (Int.toNat (4 : Int)) (ex k n v d)).v
 (dE (tamP (3 : Int) (Int.toNat (4 : Int)) (ex k n v d)).kids)).v
 (dE
 (ex (tamP (3 : Int) (Int.toNat (4 : Int)) (ex k n v d)).k
 (tamP (3 : Int) (Int.toNat (4 : Int)) (ex k n v d)).n
 (tamP (3 : Int) (Int.toNat (4 : Int)) (ex k n v d)).v
 (dE (tamP (3 : Int) (Int.toNat (4 : Int)) (ex k n v d)).kids)).kids))
 (ex
 (ex (tamP (3 : Int) (Int.toNat (4 : Int)) (ex k2 n2 v2 d2)).k
 (tamP (3 : Int) (Int.toNat (4 : Int)) (ex k2 n2 v2 d2)).n
 (tamP (3 : Int) (Int.toNat (4 : Int)) (ex k2 n2 v2 d2)).v
 (dE (tamP (3 : Int) (Int.toNat (4 : Int)) (ex k2 n2 v2 d2)).kids)).k
 (ex (tamP (3 : Int) (Int.toNat (4 : Int)) (ex k2 n2 v2 d2)).k
 (tamP (3 : Int) (Int.toNat (4 : Int)) (ex k2 n2 v2 d2)).n
 (tamP (3 : Int) (Int.toNat (4 : Int)) (ex k2 n2 v2 d2)).v
 (dE (tamP (3 : Int) (Int.toNat (4 : Int)) (ex k2 n2 v2 d2)).kids)).n
 (ex (tamP (3 : Int) (Int.toNat (4 : Int)) (ex k2 n2 v2 d2)).k
 (tamP (3 : Int) (Int.toNat (4 : Int)) (ex k2 n2 v2 d2)).n
 (tamP (3 : Int) (Int.toNat (4 : Int)) (ex k2 n2 v2 d2)).v
 (dE (tamP (3 : Int) (Int.toNat (4 : Int)) (ex k2 n2 v2 d2)).kids)).v
 (dE
 (ex (tamP (3 : Int) (Int.toNat (4 : Int)) (ex k2 n2 v2 d2)).k
 (tamP (3 : Int) (Int.toNat (4 : Int)) (ex k2 n2 v2 d2)).n
 (tamP (3 : Int) (Int.toNat (4 : Int)) (ex k2 n2 v2 d2)).v
 (dE (tamP (3 : Int) (Int.toNat (4 : Int)) (ex k2 n2 v2 d2)).kids)).kids))
 ((jnZ (3 : Int) (rowZ (3 : Int) a (3 : Nat)) (rowZ (3 : Int) b (3 : Nat))).fst,
 (jnZ (3 : Int) (rowZ (3 : Int) a (3 : Nat)) (rowZ (3 : Int) b (3 : Nat))).snd)).fst.fst
 (itD (Int.toNat (3 : Int)) (3 : Int)
 (asmZ (3 : Int) i
 (ex
 (ex (tamP (3 : Int) (Int.toNat (4 : Int)) (ex k n v d)).k
 (tamP (3 : Int) (Int.toNat (4 : Int)) (ex k n v d)).n
 (tamP (3 : Int) (Int.toNat (4 : Int)) (ex k n v d)).v
 (dE (tamP (3 : Int) (Int.toNat (4 : Int)) (ex k n v d)).kids)).k
 (ex (tamP (3 : Int) (Int.toNat (4 : Int)) (ex k n v d)).k
 (tamP (3 : Int) (Int.toNat (4 : Int)) (ex k n v d)).n
 (tamP (3 : Int) (Int.toNat (4 : Int)) (ex k n v d)).v
 (dE (tamP (3 : Int) (Int.toNat (4 : Int)) (ex k n v d)).kids)).n
 (ex (tamP (3 : Int) (Int.toNat (4 : Int)) (ex k n v d)).k
 (tamP (3 : Int) (Int.toNat (4 : Int)) (ex k n v d)).n
 (tamP (3 : Int) (Int.toNat (4 : Int)) (ex k n v d)).v
 (dE (tamP (3 : Int) (Int.toNat (4 : Int)) (ex k n v d)).kids)).v
 (dE
 (ex (tamP (3 : Int) (Int.toNat (4 : Int)) (ex k n v d)).k
 (tamP (3 : Int) (Int.toNat (4 : Int)) (ex k n v d)).n
 (tamP (3 : Int) (Int.toNat (4 : Int)) (ex k n v d)).v
 (dE (tamP (3 : Int) (Int.toNat (4 : Int)) (ex k n v d)).kids)).kids))
 (ex
 (ex (tamP (3 : Int) (Int.toNat (4 : Int)) (ex k2 n2 v2 d2)).k
 (tamP (3 : Int) (Int.toNat (4 : Int)) (ex k2 n2 v2 d2)).n
 (tamP (3 : Int) (Int.toNat (4 : Int)) (ex k2 n2 v2 d2)).v
 (dE (tamP (3 : Int) (Int.toNat (4 : Int)) (ex k2 n2 v2 d2)).kids)).k
 (ex (tamP (3 : Int) (Int.toNat (4 : Int)) (ex k2 n2 v2 d2)).k
 (tamP (3 : Int) (Int.toNat (4 : Int)) (ex k2 n2 v2 d2)).n
 (tamP (3 : Int) (Int.toNat (4 : Int)) (ex k2 n2 v2 d2)).v
 (dE (tamP (3 : Int) (Int.toNat (4 : Int)) (ex k2 n2 v2 d2)).kids)).n
 (ex (tamP (3 : Int) (Int.toNat (4 : Int)) (ex k2 n2 v2 d2)).k
 (tamP (3 : Int) (Int.toNat (4 : Int)) (ex k2 n2 v2 d2)).n
 (tamP (3 : Int) (Int.toNat (4 : Int)) (ex k2 n2 v2 d2)).v
 (dE (tamP (3 : Int) (Int.toNat (4 : Int)) (ex k2 n2 v2 d2)).kids)).v
 (dE
 (ex (tamP (3 : Int) (Int.toNat (4 : Int)) (ex k2 n2 v2 d2)).k
 (tamP (3 : Int) (Int.toNat (4 : Int)) (ex k2 n2 v2 d2)).n
 (tamP (3 : Int) (Int.toNat (4 : Int)) (ex k2 n2 v2 d2)).v
 (dE (tamP (3 : Int) (Int.toNat (4 : Int)) (ex k2 n2 v2 d2)).kids)).kids))
 ((jnZ (3 : Int) (rowZ (3 : Int) a (3 : Nat)) (rowZ (3 : Int) b (3 : Nat))).fst,
 (jnZ (3 : Int) (rowZ (3 : Int) a (3 : Nat)) (rowZ (3 : Int) b (3 : Nat))).snd)).fst)
 (3 : Int)
 (asmZ (3 : Int) i
 (ex
 (ex (tamP (3 : Int) (Int.toNat (4 : Int)) (ex k n v d)).k
 (tamP (3 : Int) (Int.toNat (4 : Int)) (ex k n v d)).n
 (tamP (3 : Int) (Int.toNat (4 : Int)) (ex k n v d)).v
 (dE (tamP (3 : Int) (Int.toNat (4 : Int)) (ex k n v d)).kids)).k
 (ex (tamP (3 : Int) (Int.toNat (4 : Int)) (ex k n v d)).k
 (tamP (3 : Int) (Int.toNat (4 : Int)) (ex k n v d)).n
 (tamP (3 : Int) (Int.toNat (4 : Int)) (ex k n v d)).v
 (dE (tamP (3 : Int) (Int.toNat (4 : Int)) (ex k n v d)).kids)).n
 (ex (tamP (3 : Int) (Int.toNat (4 : Int)) (ex k n v d)).k
 (tamP (3 : Int) (Int.toNat (4 : Int)) (ex k n v d)).n
 (tamP (3 : Int) (Int.toNat (4 : Int)) (ex k n v d)).v
 (dE (tamP (3 : Int) (Int.toNat (4 : Int)) (ex k n v d)).kids)).v
 (dE
 (ex (tamP (3 : Int) (Int.toNat (4 : Int)) (ex k n v d)).k
 (tamP (3 : Int) (Int.toNat (4 : Int)) (ex k n v d)).n
 (tamP (3 : Int) (Int.toNat (4 : Int)) (ex k n v d)).v
 (dE (tamP (3 : Int) (Int.toNat (4 : Int)) (ex k n v d)).kids)).kids))
 (ex
 (ex (tamP (3 : Int) (Int.toNat (4 : Int)) (ex k2 n2 v2 d2)).k
 (tamP (3 : Int) (Int.toNat (4 : Int)) (ex k2 n2 v2 d2)).n
 (tamP (3 : Int) (Int.toNat (4 : Int)) (ex k2 n2 v2 d2)).v
 (dE (tamP (3 : Int) (Int.toNat (4 : Int)) (ex k2 n2 v2 d2)).kids)).k
 (ex (tamP (3 : Int) (Int.toNat (4 : Int)) (ex k2 n2 v2 d2)).k
 (tamP (3 : Int) (Int.toNat (4 : Int)) (ex k2 n2 v2 d2)).n
 (tamP (3 : Int) (Int.toNat (4 : Int)) (ex k2 n2 v2 d2)).v
 (dE (tamP (3 : Int) (Int.toNat (4 : Int)) (ex k2 n2 v2 d2)).kids)).n
 (ex (tamP (3 : Int) (Int.toNat (4 : Int)) (ex k2 n2 v2 d2)).k
 (tamP (3 : Int) (Int.toNat (4 : Int)) (ex k2 n2 v2 d2)).n
 (tamP (3 : Int) (Int.toNat (4 : Int)) (ex k2 n2 v2 d2)).v
 (dE (tamP (3 : Int) (Int.toNat (4 : Int)) (ex k2 n2 v2 d2)).kids)).v
 (dE
 (ex (tamP (3 : Int) (Int.toNat (4 : Int)) (ex k2 n2 v2 d2)).k
 (tamP (3 : Int) (Int.toNat (4 : Int)) (ex k2 n2 v2 d2)).n
 (tamP (3 : Int) (Int.toNat (4 : Int)) (ex k2 n2 v2 d2)).v
 (dE (tamP (3 : Int) (Int.toNat (4 : Int)) (ex k2 n2 v2 d2)).kids)).kids))
 ((jnZ (3 : Int) (rowZ (3 : Int) a (3 : Nat)) (rowZ (3 : Int) b (3 : Nat))).fst,
 (jnZ (3 : Int) (rowZ (3 : Int) a (3 : Nat)) (rowZ (3 : Int) b (3 : Nat))).snd)).fst.fst
 (asmZ (3 : Int) i
 (ex
 (ex (tamP (3 : Int) (Int.toNat (4 : Int)) (ex k n v d)).k
 (tamP (3 : Int) (Int.toNat (4 : Int)) (ex k n v d)).n
 (tamP (3 : Int) (Int.toNat (4 : Int)) (ex k n v d)).v
 (dE (tamP (3 : Int) (Int.toNat (4 : Int)) (ex k n v d)).kids)).k
 (ex (tamP (3 : Int) (Int.toNat (4 : Int)) (ex k n v d)).k
 (tamP (3 : Int) (Int.toNat (4 : Int)) (ex k n v d)).n
 (tamP (3 : Int) (Int.toNat (4 : Int)) (ex k n v d)).v
 (dE (tamP (3 : Int) (Int.toNat (4 : Int)) (ex k n v d)).kids)).n
 (ex (tamP (3 : Int) (Int.toNat (4 : Int)) (ex k n v d)).k
 (tamP (3 : Int) (Int.toNat (4 : Int)) (ex k n v d)).n
 (tamP (3 : Int) (Int.toNat (4 : Int)) (ex k n v d)).v
 (dE (tamP (3 : Int) (Int.toNat (4 : Int)) (ex k n v d)).kids)).v
 (dE
 (ex (tamP (3 : Int) (Int.toNat (4 : Int)) (ex k n v d)).k
 (tamP (3 : Int) (Int.toNat (4 : Int)) (ex k n v d)).n
 (tamP (3 : Int) (Int.toNat (4 : Int)) (ex k n v d)).v
 (dE (tamP (3 : Int) (Int.toNat (4 : Int)) (ex k n v d)).kids)).kids))
 (ex
 (ex (tamP (3 : Int) (Int.toNat (4 : Int)) (ex k2 n2 v2 d2)).k
 (tamP (3 : Int) (Int.toNat (4 : Int)) (ex k2 n2 v2 d2)).n
 (tamP (3 : Int) (Int.toNat (4 : Int)) (ex k2 n2 v2 d2)).v
 (dE (tamP (3 : Int) (Int.toNat (4 : Int)) (ex k2 n2 v2 d2)).kids)).k
 (ex (tamP (3 : Int) (Int.toNat (4 : Int)) (ex k2 n2 v2 d2)).k
 (tamP (3 : Int) (Int.toNat (4 : Int)) (ex k2 n2 v2 d2)).n
 (tamP (3 : Int) (Int.toNat (4 : Int)) (ex k2 n2 v2 d2)).v
 (dE (tamP (3 : Int) (Int.toNat (4 : Int)) (ex k2 n2 v2 d2)).kids)).n
 (ex (tamP (3 : Int) (Int.toNat (4 : Int)) (ex k2 n2 v2 d2)).k
 (tamP (3 : Int) (Int.toNat (4 : Int)) (ex k2 n2 v2 d2)).n
 (tamP (3 : Int) (Int.toNat (4 : Int)) (ex k2 n2 v2 d2)).v
 (dE (tamP (3 : Int) (Int.toNat (4 : Int)) (ex k2 n2 v2 d2)).kids)).v
 (dE
 (ex (tamP (3 : Int) (Int.toNat (4 : Int)) (ex k2 n2 v2 d2)).k
 (tamP (3 : Int) (Int.toNat (4 : Int)) (ex k2 n2 v2 d2)).n
 (tamP (3 : Int) (Int.toNat (4 : Int)) (ex k2 n2 v2 d2)).v
 (dE (tamP (3 : Int) (Int.toNat (4 : Int)) (ex k2 n2 v2 d2)).kids)).kids))
 ((jnZ (3 : Int) (rowZ (3 : Int) a (3 : Nat)) (rowZ (3 : Int) b (3 : Nat))).fst,
 (jnZ (3 : Int) (rowZ (3 : Int) a (3 : Nat)) (rowZ (3 : Int) b (3 : Nat))).snd)).fst.snd ||
 !withinP (3 : Int)
 (asmZ (3 : Int) i
 (ex
 (ex (tamP (3 : Int) (Int.toNat (4 : Int)) (ex k n v d)).k
 (tamP (3 : Int) (Int.toNat (4 : Int)) (ex k n v d)).n
 (tamP (3 : Int) (Int.toNat (4 : Int)) (ex k n v d)).v
 (dE (tamP (3 : Int) (Int.toNat (4 : Int)) (ex k n v d)).kids)).k
 (ex (tamP (3 : Int) (Int.toNat (4 : Int)) (ex k n v d)).k
 (tamP (3 : Int) (Int.toNat (4 : Int)) (ex k n v d)).n
 (tamP (3 : Int) (Int.toNat (4 : Int)) (ex k n v d)).v
 (dE (tamP (3 : Int) (Int.toNat (4 : Int)) (ex k n v d)).kids)).n
 (ex (tamP (3 : Int) (Int.toNat (4 : Int)) (ex k n v d)).k
 (tamP (3 : Int) (Int.toNat (4 : Int)) (ex k n v d)).n
 (tamP (3 : Int) (Int.toNat (4 : Int)) (ex k n v d)).v
 (dE (tamP (3 : Int) (Int.toNat (4 : Int)) (ex k n v d)).kids)).v
 (dE
 (ex (tamP (3 : Int) (Int.toNat (4 : Int)) (ex k n v d)).k
 (tamP (3 : Int) (Int.toNat (4 : Int)) (ex k n v d)).n
 (tamP (3 : Int) (Int.toNat (4 : Int)) (ex k n v d)).v
 (dE (tamP (3 : Int) (Int.toNat (4 : Int)) (ex k n v d)).kids)).kids))
 (ex
 (ex (tamP (3 : Int) (Int.toNat (4 : Int)) (ex k2 n2 v2 d2)).k
 (tamP (3 : Int) (Int.toNat (4 : Int)) (ex k2 n2 v2 d2)).n
 (tamP (3 : Int) (Int.toNat (4 : Int)) (ex k2 n2 v2 d2)).v
 (dE (tamP (3 : Int) (Int.toNat (4 : Int)) (ex k2 n2 v2 d2)).kids)).k
 (ex (tamP (3 : Int) (Int.toNat (4 : Int)) (ex k2 n2 v2 d2)).k
 (tamP (3 : Int) (Int.toNat (4 : Int)) (ex k2 n2 v2 d2)).n
 (tamP (3 : Int) (Int.toNat (4 : Int)) (ex k2 n2 v2 d2)).v
 (dE (tamP (3 : Int) (Int.toNat (4 : Int)) (ex k2 n2 v2 d2)).kids)).n
 (ex (tamP (3 : Int) (Int.toNat (4 : Int)) (ex k2 n2 v2 d2)).k
 (tamP (3 : Int) (Int.toNat (4 : Int)) (ex k2 n2 v2 d2)).n
 (tamP (3 : Int) (Int.toNat (4 : Int)) (ex k2 n2 v2 d2)).v
 (dE (tamP (3 : Int) (Int.toNat (4 : Int)) (ex k2 n2 v2 d2)).kids)).v
 (dE
 (ex (tamP (3 : Int) (Int.toNat (4 : Int)) (ex k2 n2 v2 d2)).k
 (tamP (3 : Int) (Int.toNat (4 : Int)) (ex k2 n2 v2 d2)).n
 (tamP (3 : Int) (Int.toNat (4 : Int)) (ex k2 n2 v2 d2)).v
 (dE (tamP (3 : Int) (Int.toNat (4 : Int)) (ex k2 n2 v2 d2)).kids)).kids))
 ((jnZ (3 : Int) (rowZ (3 : Int) a (3 : Nat)) (rowZ (3 : Int) b (3 : Nat))).fst,
 (jnZ (3 : Int) (rowZ (3 : Int) a (3 : Nat)) (rowZ (3 : Int) b (3 : Nat))).snd)).fst.fst
 (asmZ (3 : Int) i
 (ex
 (ex (tamP (3 : Int) (Int.toNat (4 : Int)) (ex k n v d)).k
 (tamP (3 : Int) (Int.toNat (4 : Int)) (ex k n v d)).n
 (tamP (3 : Int) (Int.toNat (4 : Int)) (ex k n v d)).v
 (dE (tamP (3 : Int) (Int.toNat (4 : Int)) (ex k n v d)).kids)).k
 (ex (tamP (3 : Int) (Int.toNat (4 : Int)) (ex k n v d)).k
 (tamP (3 : Int) (Int.toNat (4 : Int)) (ex k n v d)).n
 (tamP (3 : Int) (Int.toNat (4 : Int)) (ex k n v d)).v
 (dE (tamP (3 : Int) (Int.toNat (4 : Int)) (ex k n v d)).kids)).n
 (ex (tamP (3 : Int) (Int.toNat (4 : Int)) (ex k n v d)).k
 (tamP (3 : Int) (Int.toNat (4 : Int)) (ex k n v d)).n
 (tamP (3 : Int) (Int.toNat (4 : Int)) (ex k n v d)).v
 (dE (tamP (3 : Int) (Int.toNat (4 : Int)) (ex k n v d)).kids)).v
 (dE
 (ex (tamP (3 : Int) (Int.toNat (4 : Int)) (ex k n v d)).k
 (tamP (3 : Int) (Int.toNat (4 : Int)) (ex k n v d)).n
 (tamP (3 : Int) (Int.toNat (4 : Int)) (ex k n v d)).v
 (dE (tamP (3 : Int) (Int.toNat (4 : Int)) (ex k n v d)).kids)).kids))
 (ex
 (ex (tamP (3 : Int) (Int.toNat (4 : Int)) (ex k2 n2 v2 d2)).k
 (tamP (3 : Int) (Int.toNat (4 : Int)) (ex k2 n2 v2 d2)).n
 (tamP (3 : Int) (Int.toNat (4 : Int)) (ex k2 n2 v2 d2)).v
 (dE (tamP (3 : Int) (Int.toNat (4 : Int)) (ex k2 n2 v2 d2)).kids)).k
 (ex (tamP (3 : Int) (Int.toNat (4 : Int)) (ex k2 n2 v2 d2)).k
 (tamP (3 : Int) (Int.toNat (4 : Int)) (ex k2 n2 v2 d2)).n
 (tamP (3 : Int) (Int.toNat (4 : Int)) (ex k2 n2 v2 d2)).v
 (dE (tamP (3 : Int) (Int.toNat (4 : Int)) (ex k2 n2 v2 d2)).kids)).n
 (ex (tamP (3 : Int) (Int.toNat (4 : Int)) (ex k2 n2 v2 d2)).k
 (tamP (3 : Int) (Int.toNat (4 : Int)) (ex k2 n2 v2 d2)).n
 (tamP (3 : Int) (Int.toNat (4 : Int)) (ex k2 n2 v2 d2)).v
 (dE (tamP (3 : Int) (Int.toNat (4 : Int)) (ex k2 n2 v2 d2)).kids)).v
 (dE
 (ex (tamP (3 : Int) (Int.toNat (4 : Int)) (ex k2 n2 v2 d2)).k
 (tamP (3 : Int) (Int.toNat (4 : Int)) (ex k2 n2 v2 d2)).n
 (tamP (3 : Int) (Int.toNat (4 : Int)) (ex k2 n2 v2 d2)).v
 (dE (tamP (3 : Int) (Int.toNat (4 : Int)) (ex k2 n2 v2 d2)).kids)).kids))
 ((jnZ (3 : Int) (rowZ (3 : Int) a (3 : Nat)) (rowZ (3 : Int) b (3 : Nat))).fst,
 (jnZ (3 : Int) (rowZ (3 : Int) a (3 : Nat)) (rowZ (3 : Int) b (3 : Nat))).snd)).fst.snd
 (3 : Int) (jnZ (3 : Int) (rowZ (3 : Int) a (3 : Nat)) (rowZ (3 : Int) b (3 : Nat))).fst
 (jnZ (3 : Int) (rowZ (3 : Int) a (3 : Nat)) (rowZ (3 : Int) b (3 : Nat))).snd ||
 (hldT i
 (evT (vD (rowI (3 : Nat) (hz fun (j : Nat) => if c = true then b j else a j)))
 (ex (tamP (3 : Int) (Int.toNat (4 : Int)) (ex k n v d)).k
 (tamP (3 : Int) (Int.toNat (4 : Int)) (ex k n v d)).n
 (tamP (3 : Int) (Int.toNat (4 : Int)) (ex k n v d)).v
 (dE (tamP (3 : Int) (Int.toNat (4 : Int)) (ex k n v d)).kids)))
 (evT (vD (rowI (3 : Nat) (hz fun (j : Nat) => if c = true then b j else a j)))
 (ex (tamP (3 : Int) (Int.toNat (4 : Int)) (ex k2 n2 v2 d2)).k
 (tamP (3 : Int) (Int.toNat (4 : Int)) (ex k2 n2 v2 d2)).n
 (tamP (3 : Int) (Int.toNat (4 : Int)) (ex k2 n2 v2 d2)).v
 (dE (tamP (3 : Int) (Int.toNat (4 : Int)) (ex k2 n2 v2 d2)).kids)))).snd ==
 (2 : Int) &&
 !(asmZ (3 : Int) i
 (ex
 (ex (tamP (3 : Int) (Int.toNat (4 : Int)) (ex k n v d)).k
 (tamP (3 : Int) (Int.toNat (4 : Int)) (ex k n v d)).n
 (tamP (3 : Int) (Int.toNat (4 : Int)) (ex k n v d)).v
 (dE (tamP (3 : Int) (Int.toNat (4 : Int)) (ex k n v d)).kids)).k
 (ex (tamP (3 : Int) (Int.toNat (4 : Int)) (ex k n v d)).k
 (tamP (3 : Int) (Int.toNat (4 : Int)) (ex k n v d)).n
 (tamP (3 : Int) (Int.toNat (4 : Int)) (ex k n v d)).v
 (dE (tamP (3 : Int) (Int.toNat (4 : Int)) (ex k n v d)).kids)).n
 (ex (tamP (3 : Int) (Int.toNat (4 : Int)) (ex k n v d)).k
 (tamP (3 : Int) (Int.toNat (4 : Int)) (ex k n v d)).n
 (tamP (3 : Int) (Int.toNat (4 : Int)) (ex k n v d)).v
 (dE (tamP (3 : Int) (Int.toNat (4 : Int)) (ex k n v d)).kids)).v
 (dE
 (ex (tamP (3 : Int) (Int.toNat (4 : Int)) (ex k n v d)).k
 (tamP (3 : Int) (Int.toNat (4 : Int)) (ex k n v d)).n
 (tamP (3 : Int) (Int.toNat (4 : Int)) (ex k n v d)).v
 (dE (tamP (3 : Int) (Int.toNat (4 : Int)) (ex k n v d)).kids)).kids))
 (ex
 (ex (tamP (3 : Int) (Int.toNat (4 : Int)) (ex k2 n2 v2 d2)).k
 (tamP (3 : Int) (Int.toNat (4 : Int)) (ex k2 n2 v2 d2)).n
 (tamP (3 : Int) (Int.toNat (4 : Int)) (ex k2 n2 v2 d2)).v
 (dE (tamP (3 : Int) (Int.toNat (4 : Int)) (ex k2 n2 v2 d2)).kids)).k
 (ex (tamP (3 : Int) (Int.toNat (4 : Int)) (ex k2 n2 v2 d2)).k
 (tamP (3 : Int) (Int.toNat (4 : Int)) (ex k2 n2 v2 d2)).n
 (tamP (3 : Int) (Int.toNat (4 : Int)) (ex k2 n2 v2 d2)).v
 (dE (tamP (3 : Int) (Int.toNat (4 : Int)) (ex k2 n2 v2 d2)).kids)).n
 (ex (tamP (3 : Int) (Int.toNat (4 : Int)) (ex k2 n2 v2 d2)).k
 (tamP (3 : Int) (Int.toNat (4 : Int)) (ex k2 n2 v2 d2)).n
 (tamP (3 : Int) (Int.toNat (4 : Int)) (ex k2 n2 v2 d2)).v
 (dE (tamP (3 : Int) (Int.toNat (4 : Int)) (ex k2 n2 v2 d2)).kids)).v
 (dE
 (ex (tamP (3 : Int) (Int.toNat (4 : Int)) (ex k2 n2 v2 d2)).k
 (tamP (3 : Int) (Int.toNat (4 : Int)) (ex k2 n2 v2 d2)).n
 (tamP (3 : Int) (Int.toNat (4 : Int)) (ex k2 n2 v2 d2)).v
 (dE (tamP (3 : Int) (Int.toNat (4 : Int)) (ex k2 n2 v2 d2)).kids)).kids))
 ((jnZ (3 : Int) (rowZ (3 : Int) a (3 : Nat)) (rowZ (3 : Int) b (3 : Nat))).fst,
 (jnZ (3 : Int) (rowZ (3 : Int) a (3 : Nat)) (rowZ (3 : Int) b (3 : Nat))).snd)).snd.fst ||
 (hldT i
 (evT (vD (rowI (3 : Nat) (hz fun (j : Nat) => if c = true then b j else a j)))
 (ex (tamP (3 : Int) (Int.toNat (4 : Int)) (ex k n v d)).k
 (tamP (3 : Int) (Int.toNat (4 : Int)) (ex k n v d)).n
 (tamP (3 : Int) (Int.toNat (4 : Int)) (ex k n v d)).v
 (dE (tamP (3 : Int) (Int.toNat (4 : Int)) (ex k n v d)).kids)))
 (evT (vD (rowI (3 : Nat) (hz fun (j : Nat) => if c = true then b j else a j)))
 (ex (tamP (3 : Int) (Int.toNat (4 : Int)) (ex k2 n2 v2 d2)).k
 (tamP (3 : Int) (Int.toNat (4 : Int)) (ex k2 n2 v2 d2)).n
 (tamP (3 : Int) (Int.toNat (4 : Int)) (ex k2 n2 v2 d2)).v
 (dE (tamP (3 : Int) (Int.toNat (4 : Int)) (ex k2 n2 v2 d2)).kids)))).snd ==
 (3 : Int) &&
 !(asmZ (3 : Int) i
 (ex
 (ex (tamP (3 : Int) (Int.toNat (4 : Int)) (ex k n v d)).k
 (tamP (3 : Int) (Int.toNat (4 : Int)) (ex k n v d)).n
 (tamP (3 : Int) (Int.toNat (4 : Int)) (ex k n v d)).v
 (dE (tamP (3 : Int) (Int.toNat (4 : Int)) (ex k n v d)).kids)).k
 (ex (tamP (3 : Int) (Int.toNat (4 : Int)) (ex k n v d)).k
 (tamP (3 : Int) (Int.toNat (4 : Int)) (ex k n v d)).n
 (tamP (3 : Int) (Int.toNat (4 : Int)) (ex k n v d)).v
 (dE (tamP (3 : Int) (Int.toNat (4 : Int)) (ex k n v d)).kids)).n
 (ex (tamP (3 : Int) (Int.toNat (4 : Int)) (ex k n v d)).k
 (tamP (3 : Int) (Int.toNat (4 : Int)) (ex k n v d)).n
 (tamP (3 : Int) (Int.toNat (4 : Int)) (ex k n v d)).v
 (dE (tamP (3 : Int) (Int.toNat (4 : Int)) (ex k n v d)).kids)).v
 (dE
 (ex (tamP (3 : Int) (Int.toNat (4 : Int)) (ex k n v d)).k
 (tamP (3 : Int) (Int.toNat (4 : Int)) (ex k n v d)).n
 (tamP (3 : Int) (Int.toNat (4 : Int)) (ex k n v d)).v
 (dE (tamP (3 : Int) (Int.toNat (4 : Int)) (ex k n v d)).kids)).kids))
 (ex
 (ex (tamP (3 : Int) (Int.toNat (4 : Int)) (ex k2 n2 v2 d2)).k
 (tamP (3 : Int) (Int.toNat (4 : Int)) (ex k2 n2 v2 d2)).n
 (tamP (3 : Int) (Int.toNat (4 : Int)) (ex k2 n2 v2 d2)).v
 (dE (tamP (3 : Int) (Int.toNat (4 : Int)) (ex k2 n2 v2 d2)).kids)).k
 (ex (tamP (3 : Int) (Int.toNat (4 : Int)) (ex k2 n2 v2 d2)).k
 (tamP (3 : Int) (Int.toNat (4 : Int)) (ex k2 n2 v2 d2)).n
 (tamP (3 : Int) (Int.toNat (4 : Int)) (ex k2 n2 v2 d2)).v
 (dE (tamP (3 : Int) (Int.toNat (4 : Int)) (ex k2 n2 v2 d2)).kids)).n
 (ex (tamP (3 : Int) (Int.toNat (4 : Int)) (ex k2 n2 v2 d2)).k
 (tamP (3 : Int) (Int.toNat (4 : Int)) (ex k2 n2 v2 d2)).n
 (tamP (3 : Int) (Int.toNat (4 : Int)) (ex k2 n2 v2 d2)).v
 (dE (tamP (3 : Int) (Int.toNat (4 : Int)) (ex k2 n2 v2 d2)).kids)).v
 (dE
 (ex (tamP (3 : Int) (Int.toNat (4 : Int)) (ex k2 n2 v2 d2)).k
 (tamP (3 : Int) (Int.toNat (4 : Int)) (ex k2 n2 v2 d2)).n
 (tamP (3 : Int) (Int.toNat (4 : Int)) (ex k2 n2 v2 d2)).v
 (dE (tamP (3 : Int) (Int.toNat (4 : Int)) (ex k2 n2 v2 d2)).kids)).kids))
 ((jnZ (3 : Int) (rowZ (3 : Int) a (3 : Nat)) (rowZ (3 : Int) b (3 : Nat))).fst,
 (jnZ (3 : Int) (rowZ (3 : Int) a (3 : Nat)) (rowZ (3 : Int) b (3 : Nat))).snd)).snd.snd ||
 (hldT i
 (evT (vD (rowI (3 : Nat) (hz fun (j : Nat) => if c = true then b j else a j)))
 (ex (tamP (3 : Int) (Int.toNat (4 : Int)) (ex k n v d)).k
 (tamP (3 : Int) (Int.toNat (4 : Int)) (ex k n v d)).n
 (tamP (3 : Int) (Int.toNat (4 : Int)) (ex k n v d)).v
 (dE (tamP (3 : Int) (Int.toNat (4 : Int)) (ex k n v d)).kids)))
 (evT (vD (rowI (3 : Nat) (hz fun (j : Nat) => if c = true then b j else a j)))
 (ex (tamP (3 : Int) (Int.toNat (4 : Int)) (ex k2 n2 v2 d2)).k
 (tamP (3 : Int) (Int.toNat (4 : Int)) (ex k2 n2 v2 d2)).n
 (tamP (3 : Int) (Int.toNat (4 : Int)) (ex k2 n2 v2 d2)).v
 (dE (tamP (3 : Int) (Int.toNat (4 : Int)) (ex k2 n2 v2 d2)).kids)))).snd ==
 (0 : Int) &&
 (hldT i
 (evT (vD (rowI (3 : Nat) (hz fun (j : Nat) => if c = true then b j else a j)))
 (ex (tamP (3 : Int) (Int.toNat (4 : Int)) (ex k n v d)).k
 (tamP (3 : Int) (Int.toNat (4 : Int)) (ex k n v d)).n
 (tamP (3 : Int) (Int.toNat (4 : Int)) (ex k n v d)).v
 (dE (tamP (3 : Int) (Int.toNat (4 : Int)) (ex k n v d)).kids)))
 (evT (vD (rowI (3 : Nat) (hz fun (j : Nat) => if c = true then b j else a j)))
 (ex (tamP (3 : Int) (Int.toNat (4 : Int)) (ex k2 n2 v2 d2)).k
 (tamP (3 : Int) (Int.toNat (4 : Int)) (ex k2 n2 v2 d2)).n
 (tamP (3 : Int) (Int.toNat (4 : Int)) (ex k2 n2 v2 d2)).v
 (dE (tamP (3 : Int) (Int.toNat (4 : Int)) (ex k2 n2 v2 d2)).kids)))).fst &&
 !nhasP
 (asmZ (3 : Int) i
 (ex
 (ex (tamP (3 : Int) (Int.toNat (4 : Int)) (ex k n v d)).k
 (tamP (3 : Int) (Int.toNat (4 : Int)) (ex k n v d)).n
 (tamP (3 : Int) (Int.toNat (4 : Int)) (ex k n v d)).v
 (dE (tamP (3 : Int) (Int.toNat (4 : Int)) (ex k n v d)).kids)).k
 (ex (tamP (3 : Int) (Int.toNat (4 : Int)) (ex k n v d)).k
 (tamP (3 : Int) (Int.toNat (4 : Int)) (ex k n v d)).n
 (tamP (3 : Int) (Int.toNat (4 : Int)) (ex k n v d)).v
 (dE (tamP (3 : Int) (Int.toNat (4 : Int)) (ex k n v d)).kids)).n
 (ex (tamP (3 : Int) (Int.toNat (4 : Int)) (ex k n v d)).k
 (tamP (3 : Int) (Int.toNat (4 : Int)) (ex k n v d)).n
 (tamP (3 : Int) (Int.toNat (4 : Int)) (ex k n v d)).v
 (dE (tamP (3 : Int) (Int.toNat (4 : Int)) (ex k n v d)).kids)).v
 (dE
 (ex (tamP (3 : Int) (Int.toNat (4 : Int)) (ex k n v d)).k
 (tamP (3 : Int) (Int.toNat (4 : Int)) (ex k n v d)).n
 (tamP (3 : Int) (Int.toNat (4 : Int)) (ex k n v d)).v
 (dE (tamP (3 : Int) (Int.toNat (4 : Int)) (ex k n v d)).kids)).kids))
 (ex
 (ex (tamP (3 : Int) (Int.toNat (4 : Int)) (ex k2 n2 v2 d2)).k
 (tamP (3 : Int) (Int.toNat (4 : Int)) (ex k2 n2 v2 d2)).n
 (tamP (3 : Int) (Int.toNat (4 : Int)) (ex k2 n2 v2 d2)).v
 (dE (tamP (3 : Int) (Int.toNat (4 : Int)) (ex k2 n2 v2 d2)).kids)).k
 (ex (tamP (3 : Int) (Int.toNat (4 : Int)) (ex k2 n2 v2 d2)).k
 (tamP (3 : Int) (Int.toNat (4 : Int)) (ex k2 n2 v2 d2)).n
 (tamP (3 : Int) (Int.toNat (4 : Int)) (ex k2 n2 v2 d2)).v
 (dE (tamP (3 : Int) (Int.toNat (4 : Int)) (ex k2 n2 v2 d2)).kids)).n
 (ex (tamP (3 : Int) (Int.toNat (4 : Int)) (ex k2 n2 v2 d2)).k
 (tamP (3 : Int) (Int.toNat (4 : Int)) (ex k2 n2 v2 d2)).n
 (tamP (3 : Int) (Int.toNat (4 : Int)) (ex k2 n2 v2 d2)).v
 (dE (tamP (3 : Int) (Int.toNat (4 : Int)) (ex k2 n2 v2 d2)).kids)).v
 (dE
 (ex (tamP (3 : Int) (Int.toNat (4 : Int)) (ex k2 n2 v2 d2)).k
 (tamP (3 : Int) (Int.toNat (4 : Int)) (ex k2 n2 v2 d2)).n
 (tamP (3 : Int) (Int.toNat (4 : Int)) (ex k2 n2 v2 d2)).v
 (dE (tamP (3 : Int) (Int.toNat (4 : Int)) (ex k2 n2 v2 d2)).kids)).kids))
 ((jnZ (3 : Int) (rowZ (3 : Int) a (3 : Nat)) (rowZ (3 : Int) b (3 : Nat))).fst,
 (jnZ (3 : Int) (rowZ (3 : Int) a (3 : Nat)) (rowZ (3 : Int) b (3 : Nat))).snd)).fst.fst
 (itD (Int.toNat (3 : Int)) (3 : Int)
 (asmZ (3 : Int) i
 (ex
 (ex (tamP (3 : Int) (Int.toNat (4 : Int)) (ex k n v d)).k
 (tamP (3 : Int) (Int.toNat (4 : Int)) (ex k n v d)).n
 (tamP (3 : Int) (Int.toNat (4 : Int)) (ex k n v d)).v
 (dE (tamP (3 : Int) (Int.toNat (4 : Int)) (ex k n v d)).kids)).k
 (ex (tamP (3 : Int) (Int.toNat (4 : Int)) (ex k n v d)).k
 (tamP (3 : Int) (Int.toNat (4 : Int)) (ex k n v d)).n
 (tamP (3 : Int) (Int.toNat (4 : Int)) (ex k n v d)).v
 (dE (tamP (3 : Int) (Int.toNat (4 : Int)) (ex k n v d)).kids)).n
 (ex (tamP (3 : Int) (Int.toNat (4 : Int)) (ex k n v d)).k
 (tamP (3 : Int) (Int.toNat (4 : Int)) (ex k n v d)).n
 (tamP (3 : Int) (Int.toNat (4 : Int)) (ex k n v d)).v
 (dE (tamP (3 : Int) (Int.toNat (4 : Int)) (ex k n v d)).kids)).v
 (dE
 (ex (tamP (3 : Int) (Int.toNat (4 : Int)) (ex k n v d)).k
 (tamP (3 : Int) (Int.toNat (4 : Int)) (ex k n v d)).n
 (tamP (3 : Int) (Int.toNat (4 : Int)) (ex k n v d)).v
 (dE (tamP (3 : Int) (Int.toNat (4 : Int)) (ex k n v d)).kids)).kids))
 (ex
 (ex (tamP (3 : Int) (Int.toNat (4 : Int)) (ex k2 n2 v2 d2)).k
 (tamP (3 : Int) (Int.toNat (4 : Int)) (ex k2 n2 v2 d2)).n
 (tamP (3 : Int) (Int.toNat (4 : Int)) (ex k2 n2 v2 d2)).v
 (dE (tamP (3 : Int) (Int.toNat (4 : Int)) (ex k2 n2 v2 d2)).kids)).k
 (ex (tamP (3 : Int) (Int.toNat (4 : Int)) (ex k2 n2 v2 d2)).k
 (tamP (3 : Int) (Int.toNat (4 : Int)) (ex k2 n2 v2 d2)).n
 (tamP (3 : Int) (Int.toNat (4 : Int)) (ex k2 n2 v2 d2)).v
 (dE (tamP (3 : Int) (Int.toNat (4 : Int)) (ex k2 n2 v2 d2)).kids)).n
 (ex (tamP (3 : Int) (Int.toNat (4 : Int)) (ex k2 n2 v2 d2)).k
 (tamP (3 : Int) (Int.toNat (4 : Int)) (ex k2 n2 v2 d2)).n
 (tamP (3 : Int) (Int.toNat (4 : Int)) (ex k2 n2 v2 d2)).v
 (dE (tamP (3 : Int) (Int.toNat (4 : Int)) (ex k2 n2 v2 d2)).kids)).v
 (dE
 (ex (tamP (3 : Int) (Int.toNat (4 : Int)) (ex k2 n2 v2 d2)).k
 (tamP (3 : Int) (Int.toNat (4 : Int)) (ex k2 n2 v2 d2)).n
 (tamP (3 : Int) (Int.toNat (4 : Int)) (ex k2 n2 v2 d2)).v
 (dE (tamP (3 : Int) (Int.toNat (4 : Int)) (ex k2 n2 v2 d2)).kids)).kids))
 ((jnZ (3 : Int) (rowZ (3 : Int) a (3 : Nat)) (rowZ (3 : Int) b (3 : Nat))).fst,
 (jnZ (3 : Int) (rowZ (3 : Int) a (3 : Nat)) (rowZ (3 : Int) b (3 : Nat))).snd)).fst)
 (3 : Int)
 (asmZ (3 : Int) i
 (ex
 (ex (tamP (3 : Int) (Int.toNat (4 : Int)) (ex k n v d)).k
 (tamP (3 : Int) (Int.toNat (4 : Int)) (ex k n v d)).n
 (tamP (3 : Int) (Int.toNat (4 : Int)) (ex k n v d)).v
 (dE (tamP (3 : Int) (Int.toNat (4 : Int)) (ex k n v d)).kids)).k
 (ex (tamP (3 : Int) (Int.toNat (4 : Int)) (ex k n v d)).k
 (tamP (3 : Int) (Int.toNat (4 : Int)) (ex k n v d)).n
 (tamP (3 : Int) (Int.toNat (4 : Int)) (ex k n v d)).v
 (dE (tamP (3 : Int) (Int.toNat (4 : Int)) (ex k n v d)).kids)).n
 (ex (tamP (3 : Int) (Int.toNat (4 : Int)) (ex k n v d)).k
 (tamP (3 : Int) (Int.toNat (4 : Int)) (ex k n v d)).n
 (tamP (3 : Int) (Int.toNat (4 : Int)) (ex k n v d)).v
 (dE (tamP (3 : Int) (Int.toNat (4 : Int)) (ex k n v d)).kids)).v
 (dE
 (ex (tamP (3 : Int) (Int.toNat (4 : Int)) (ex k n v d)).k
 (tamP (3 : Int) (Int.toNat (4 : Int)) (ex k n v d)).n
 (tamP (3 : Int) (Int.toNat (4 : Int)) (ex k n v d)).v
 (dE (tamP (3 : Int) (Int.toNat (4 : Int)) (ex k n v d)).kids)).kids))
 (ex
 (ex (tamP (3 : Int) (Int.toNat (4 : Int)) (ex k2 n2 v2 d2)).k
 (tamP (3 : Int) (Int.toNat (4 : Int)) (ex k2 n2 v2 d2)).n
 (tamP (3 : Int) (Int.toNat (4 : Int)) (ex k2 n2 v2 d2)).v
 (dE (tamP (3 : Int) (Int.toNat (4 : Int)) (ex k2 n2 v2 d2)).kids)).k
 (ex (tamP (3 : Int) (Int.toNat (4 : Int)) (ex k2 n2 v2 d2)).k
 (tamP (3 : Int) (Int.toNat (4 : Int)) (ex k2 n2 v2 d2)).n
 (tamP (3 : Int) (Int.toNat (4 : Int)) (ex k2 n2 v2 d2)).v
 (dE (tamP (3 : Int) (Int.toNat (4 : Int)) (ex k2 n2 v2 d2)).kids)).n
 (ex (tamP (3 : Int) (Int.toNat (4 : Int)) (ex k2 n2 v2 d2)).k
 (tamP (3 : Int) (Int.toNat (4 : Int)) (ex k2 n2 v2 d2)).n
 (tamP (3 : Int) (Int.toNat (4 : Int)) (ex k2 n2 v2 d2)).v
 (dE (tamP (3 : Int) (Int.toNat (4 : Int)) (ex k2 n2 v2 d2)).kids)).v
 (dE
 (ex (tamP (3 : Int) (Int.toNat (4 : Int)) (ex k2 n2 v2 d2)).k
 (tamP (3 : Int) (Int.toNat (4 : Int)) (ex k2 n2 v2 d2)).n
 (tamP (3 : Int) (Int.toNat (4 : Int)) (ex k2 n2 v2 d2)).v
 (dE (tamP (3 : Int) (Int.toNat (4 : Int)) (ex k2 n2 v2 d2)).kids)).kids))
 ((jnZ (3 : Int) (rowZ (3 : Int) a (3 : Nat)) (rowZ (3 : Int) b (3 : Nat))).fst,
 (jnZ (3 : Int) (rowZ (3 : Int) a (3 : Nat)) (rowZ (3 : Int) b (3 : Nat))).snd)).fst.fst
 (asmZ (3 : Int) i
 (ex
 (ex (tamP (3 : Int) (Int.toNat (4 : Int)) (ex k n v d)).k
 (tamP (3 : Int) (Int.toNat (4 : Int)) (ex k n v d)).n
 (tamP (3 : Int) (Int.toNat (4 : Int)) (ex k n v d)).v
 (dE (tamP (3 : Int) (Int.toNat (4 : Int)) (ex k n v d)).kids)).k
 (ex (tamP (3 : Int) (Int.toNat (4 : Int)) (ex k n v d)).k
 (tamP (3 : Int) (Int.toNat (4 : Int)) (ex k n v d)).n
 (tamP (3 : Int) (Int.toNat (4 : Int)) (ex k n v d)).v
 (dE (tamP (3 : Int) (Int.toNat (4 : Int)) (ex k n v d)).kids)).n
 (ex (tamP (3 : Int) (Int.toNat (4 : Int)) (ex k n v d)).k
 (tamP (3 : Int) (Int.toNat (4 : Int)) (ex k n v d)).n
 (tamP (3 : Int) (Int.toNat (4 : Int)) (ex k n v d)).v
 (dE (tamP (3 : Int) (Int.toNat (4 : Int)) (ex k n v d)).kids)).v
 (dE
 (ex (tamP (3 : Int) (Int.toNat (4 : Int)) (ex k n v d)).k
 (tamP (3 : Int) (Int.toNat (4 : Int)) (ex k n v d)).n
 (tamP (3 : Int) (Int.toNat (4 : Int)) (ex k n v d)).v
 (dE (tamP (3 : Int) (Int.toNat (4 : Int)) (ex k n v d)).kids)).kids))
 (ex
 (ex (tamP (3 : Int) (Int.toNat (4 : Int)) (ex k2 n2 v2 d2)).k
 (tamP (3 : Int) (Int.toNat (4 : Int)) (ex k2 n2 v2 d2)).n
 (tamP (3 : Int) (Int.toNat (4 : Int)) (ex k2 n2 v2 d2)).v
 (dE (tamP (3 : Int) (Int.toNat (4 : Int)) (ex k2 n2 v2 d2)).kids)).k
 (ex (tamP (3 : Int) (Int.toNat (4 : Int)) (ex k2 n2 v2 d2)).k
 (tamP (3 : Int) (Int.toNat (4 : Int)) (ex k2 n2 v2 d2)).n
 (tamP (3 : Int) (Int.toNat (4 : Int)) (ex k2 n2 v2 d2)).v
 (dE (tamP (3 : Int) (Int.toNat (4 : Int)) (ex k2 n2 v2 d2)).kids)).n
 (ex (tamP (3 : Int) (Int.toNat (4 : Int)) (ex k2 n2 v2 d2)).k
 (tamP (3 : Int) (Int.toNat (4 : Int)) (ex k2 n2 v2 d2)).n
 (tamP (3 : Int) (Int.toNat (4 : Int)) (ex k2 n2 v2 d2)).v
 (dE (tamP (3 : Int) (Int.toNat (4 : Int)) (ex k2 n2 v2 d2)).kids)).v
 (dE
 (ex (tamP (3 : Int) (Int.toNat (4 : Int)) (ex k2 n2 v2 d2)).k
 (tamP (3 : Int) (Int.toNat (4 : Int)) (ex k2 n2 v2 d2)).n
 (tamP (3 : Int) (Int.toNat (4 : Int)) (ex k2 n2 v2 d2)).v
 (dE (tamP (3 : Int) (Int.toNat (4 : Int)) (ex k2 n2 v2 d2)).kids)).kids))
 ((jnZ (3 : Int) (rowZ (3 : Int) a (3 : Nat)) (rowZ (3 : Int) b (3 : Nat))).fst,
 (jnZ (3 : Int) (rowZ (3 : Int) a (3 : Nat)) (rowZ (3 : Int) b (3 : Nat))).snd)).fst.snd
 (rowI (3 : Nat) (hz fun (j : Nat) => if c = true then b j else a j))) =
 false →
 (rowI (3 : Nat) (hz fun (j : Nat) => if c = true then b j else a j)).len ≤ (6 : Nat) ∧
 NumOK (↑(rowI (3 : Nat) (hz fun (j : Nat) => if c = true then b j else a j)).len : Int)
 (rowZ (↑(rowI (3 : Nat) (hz fun (j : Nat) => if c = true then b j else a j)).len : Int)
 (fun (j : Nat) => vD (rowI (3 : Nat) (hz fun (j : Nat) => if c = true then b j else a j)) (↑j : Int))
 (rowI (3 : Nat) (hz fun (j : Nat) => if c = true then b j else a j)).len).fst
 (itD (rowI (3 : Nat) (hz fun (j : Nat) => if c = true then b j else a j)).len
 (↑(rowI (3 : Nat) (hz fun (j : Nat) => if c = true then b j else a j)).len : Int)
 (rowZ (↑(rowI (3 : Nat) (hz fun (j : Nat) => if c = true then b j else a j)).len : Int)
 (fun (j : Nat) => vD (rowI (3 : Nat) (hz fun (j : Nat) => if c = true then b j else a j)) (↑j : Int))
 (rowI (3 : Nat) (hz fun (j : Nat) => if c = true then b j else a j)).len))
 (rowZ (↑(rowI (3 : Nat) (hz fun (j : Nat) => if c = true then b j else a j)).len : Int)
 (fun (j : Nat) => vD (rowI (3 : Nat) (hz fun (j : Nat) => if c = true then b j else a j)) (↑j : Int))
 (rowI (3 : Nat) (hz fun (j : Nat) => if c = true then b j else a j)).len).fst
 (rowZ (↑(rowI (3 : Nat) (hz fun (j : Nat) => if c = true then b j else a j)).len : Int)
 (fun (j : Nat) => vD (rowI (3 : Nat) (hz fun (j : Nat) => if c = true then b j else a j)) (↑j : Int))
 (rowI (3 : Nat) (hz fun (j : Nat) => if c = true then b j else a j)).len).snd ∧
 (0 : Int) < (↑(rowI (3 : Nat) (hz fun (j : Nat) => if c = true then b j else a j)).len : Int) ∧
 ((!(asmZ (↑(rowI (3 : Nat) (hz fun (j : Nat) => if c = true then b j else a j)).len : Int) i
 (ex
 (ex (tamP (3 : Int) (Int.toNat (4 : Int)) (ex k n v d)).k
 (tamP (3 : Int) (Int.toNat (4 : Int)) (ex k n v d)).n
 (tamP (3 : Int) (Int.toNat (4 : Int)) (ex k n v d)).v
 (dE (tamP (3 : Int) (Int.toNat (4 : Int)) (ex k n v d)).kids)).k
 (ex (tamP (3 : Int) (Int.toNat (4 : Int)) (ex k n v d)).k
 (tamP (3 : Int) (Int.toNat (4 : Int)) (ex k n v d)).n
 (tamP (3 : Int) (Int.toNat (4 : Int)) (ex k n v d)).v
 (dE (tamP (3 : Int) (Int.toNat (4 : Int)) (ex k n v d)).kids)).n
 (ex (tamP (3 : Int) (Int.toNat (4 : Int)) (ex k n v d)).k
 (tamP (3 : Int) (Int.toNat (4 : Int)) (ex k n v d)).n
 (tamP (3 : Int) (Int.toNat (4 : Int)) (ex k n v d)).v
 (dE (tamP (3 : Int) (Int.toNat (4 : Int)) (ex k n v d)).kids)).v
 (dE
 (ex (tamP (3 : Int) (Int.toNat (4 : Int)) (ex k n v d)).k
 (tamP (3 : Int) (Int.toNat (4 : Int)) (ex k n v d)).n
 (tamP (3 : Int) (Int.toNat (4 : Int)) (ex k n v d)).v
 (dE (tamP (3 : Int) (Int.toNat (4 : Int)) (ex k n v d)).kids)).kids))
 (ex
 (ex (tamP (3 : Int) (Int.toNat (4 : Int)) (ex k2 n2 v2 d2)).k
 (tamP (3 : Int) (Int.toNat (4 : Int)) (ex k2 n2 v2 d2)).n
 (tamP (3 : Int) (Int.toNat (4 : Int)) (ex k2 n2 v2 d2)).v
 (dE (tamP (3 : Int) (Int.toNat (4 : Int)) (ex k2 n2 v2 d2)).kids)).k
 (ex (tamP (3 : Int) (Int.toNat (4 : Int)) (ex k2 n2 v2 d2)).k
 (tamP (3 : Int) (Int.toNat (4 : Int)) (ex k2 n2 v2 d2)).n
 (tamP (3 : Int) (Int.toNat (4 : Int)) (ex k2 n2 v2 d2)).v
 (dE (tamP (3 : Int) (Int.toNat (4 : Int)) (ex k2 n2 v2 d2)).kids)).n
 (ex (tamP (3 : Int) (Int.toNat (4 : Int)) (ex k2 n2 v2 d2)).k
 (tamP (3 : Int) (Int.toNat (4 : Int)) (ex k2 n2 v2 d2)).n
 (tamP (3 : Int) (Int.toNat (4 : Int)) (ex k2 n2 v2 d2)).v
 (dE (tamP (3 : Int) (Int.toNat (4 : Int)) (ex k2 n2 v2 d2)).kids)).v
 (dE
 (ex (tamP (3 : Int) (Int.toNat (4 : Int)) (ex k2 n2 v2 d2)).k
 (tamP (3 : Int) (Int.toNat (4 : Int)) (ex k2 n2 v2 d2)).n
 (tamP (3 : Int) (Int.toNat (4 : Int)) (ex k2 n2 v2 d2)).v
 (dE (tamP (3 : Int) (Int.toNat (4 : Int)) (ex k2 n2 v2 d2)).kids)).kids))
 ((rowZ (↑(rowI (3 : Nat) (hz fun (j : Nat) => if c = true then b j else a j)).len : Int)
 (fun (j : Nat) =>
 vD (rowI (3 : Nat) (hz fun (j : Nat) => if c = true then b j else a j))
 (↑j : Int))
 (rowI (3 : Nat) (hz fun (j : Nat) => if c = true then b j else a j)).len).fst,
 (rowZ
 (↑(rowI (3 : Nat) (hz fun (j : Nat) => if c = true then b j else a j)).len : Int)
 (fun (j : Nat) =>
 vD (rowI (3 : Nat) (hz fun (j : Nat) => if c = true then b j else a j))
 (↑j : Int))
 (rowI (3 : Nat)
 (hz fun (j : Nat) => if c = true then b j else a j)).len).snd)).snd.fst ==
 ((hldT i
 (evT (vD (rowI (3 : Nat) (hz fun (j : Nat) => if c = true then b j else a j)))
 (ex (tamP (3 : Int) (Int.toNat (4 : Int)) (ex k n v d)).k
 (tamP (3 : Int) (Int.toNat (4 : Int)) (ex k n v d)).n
 (tamP (3 : Int) (Int.toNat (4 : Int)) (ex k n v d)).v
 (dE (tamP (3 : Int) (Int.toNat (4 : Int)) (ex k n v d)).kids)))
 (evT (vD (rowI (3 : Nat) (hz fun (j : Nat) => if c = true then b j else a j)))
 (ex (tamP (3 : Int) (Int.toNat (4 : Int)) (ex k2 n2 v2 d2)).k
 (tamP (3 : Int) (Int.toNat (4 : Int)) (ex k2 n2 v2 d2)).n
 (tamP (3 : Int) (Int.toNat (4 : Int)) (ex k2 n2 v2 d2)).v
 (dE (tamP (3 : Int) (Int.toNat (4 : Int)) (ex k2 n2 v2 d2)).kids)))).snd ==
 (2 : Int)) ||
 !(asmZ (↑(rowI (3 : Nat) (hz fun (j : Nat) => if c = true then b j else a j)).len : Int) i
 (ex
 (ex (tamP (3 : Int) (Int.toNat (4 : Int)) (ex k n v d)).k
 (tamP (3 : Int) (Int.toNat (4 : Int)) (ex k n v d)).n
 (tamP (3 : Int) (Int.toNat (4 : Int)) (ex k n v d)).v
 (dE (tamP (3 : Int) (Int.toNat (4 : Int)) (ex k n v d)).kids)).k
 (ex (tamP (3 : Int) (Int.toNat (4 : Int)) (ex k n v d)).k
 (tamP (3 : Int) (Int.toNat (4 : Int)) (ex k n v d)).n
 (tamP (3 : Int) (Int.toNat (4 : Int)) (ex k n v d)).v
 (dE (tamP (3 : Int) (Int.toNat (4 : Int)) (ex k n v d)).kids)).n
 (ex (tamP (3 : Int) (Int.toNat (4 : Int)) (ex k n v d)).k
 (tamP (3 : Int) (Int.toNat (4 : Int)) (ex k n v d)).n
 (tamP (3 : Int) (Int.toNat (4 : Int)) (ex k n v d)).v
 (dE (tamP (3 : Int) (Int.toNat (4 : Int)) (ex k n v d)).kids)).v
 (dE
 (ex (tamP (3 : Int) (Int.toNat (4 : Int)) (ex k n v d)).k
 (tamP (3 : Int) (Int.toNat (4 : Int)) (ex k n v d)).n
 (tamP (3 : Int) (Int.toNat (4 : Int)) (ex k n v d)).v
 (dE (tamP (3 : Int) (Int.toNat (4 : Int)) (ex k n v d)).kids)).kids))
 (ex
 (ex (tamP (3 : Int) (Int.toNat (4 : Int)) (ex k2 n2 v2 d2)).k
 (tamP (3 : Int) (Int.toNat (4 : Int)) (ex k2 n2 v2 d2)).n
 (tamP (3 : Int) (Int.toNat (4 : Int)) (ex k2 n2 v2 d2)).v
 (dE (tamP (3 : Int) (Int.toNat (4 : Int)) (ex k2 n2 v2 d2)).kids)).k
 (ex (tamP (3 : Int) (Int.toNat (4 : Int)) (ex k2 n2 v2 d2)).k
 (tamP (3 : Int) (Int.toNat (4 : Int)) (ex k2 n2 v2 d2)).n
 (tamP (3 : Int) (Int.toNat (4 : Int)) (ex k2 n2 v2 d2)).v
 (dE (tamP (3 : Int) (Int.toNat (4 : Int)) (ex k2 n2 v2 d2)).kids)).n
 (ex (tamP (3 : Int) (Int.toNat (4 : Int)) (ex k2 n2 v2 d2)).k
 (tamP (3 : Int) (Int.toNat (4 : Int)) (ex k2 n2 v2 d2)).n
 (tamP (3 : Int) (Int.toNat (4 : Int)) (ex k2 n2 v2 d2)).v
 (dE (tamP (3 : Int) (Int.toNat (4 : Int)) (ex k2 n2 v2 d2)).kids)).v
 (dE
 (ex (tamP (3 : Int) (Int.toNat (4 : Int)) (ex k2 n2 v2 d2)).k
 (tamP (3 : Int) (Int.toNat (4 : Int)) (ex k2 n2 v2 d2)).n
 (tamP (3 : Int) (Int.toNat (4 : Int)) (ex k2 n2 v2 d2)).v
 (dE (tamP (3 : Int) (Int.toNat (4 : Int)) (ex k2 n2 v2 d2)).kids)).kids))
 ((rowZ (↑(rowI (3 : Nat) (hz fun (j : Nat) => if c = true then b j else a j)).len : Int)
 (fun (j : Nat) =>
 vD (rowI (3 : Nat) (hz fun (j : Nat) => if c = true then b j else a j))
 (↑j : Int))
 (rowI (3 : Nat) (hz fun (j : Nat) => if c = true then b j else a j)).len).fst,
 (rowZ
 (↑(rowI (3 : Nat) (hz fun (j : Nat) => if c = true then b j else a j)).len : Int)
 (fun (j : Nat) =>
 vD (rowI (3 : Nat) (hz fun (j : Nat) => if c = true then b j else a j))
 (↑j : Int))
 (rowI (3 : Nat)
 (hz fun (j : Nat) => if c = true then b j else a j)).len).snd)).snd.snd ==
 ((hldT i
 (evT (vD (rowI (3 : Nat) (hz fun (j : Nat) => if c = true then b j else a j)))
 (ex (tamP (3 : Int) (Int.toNat (4 : Int)) (ex k n v d)).k
 (tamP (3 : Int) (Int.toNat (4 : Int)) (ex k n v d)).n
 (tamP (3 : Int) (Int.toNat (4 : Int)) (ex k n v d)).v
 (dE (tamP (3 : Int) (Int.toNat (4 : Int)) (ex k n v d)).kids)))
 (evT (vD (rowI (3 : Nat) (hz fun (j : Nat) => if c = true then b j else a j)))
 (ex (tamP (3 : Int) (Int.toNat (4 : Int)) (ex k2 n2 v2 d2)).k
 (tamP (3 : Int) (Int.toNat (4 : Int)) (ex k2 n2 v2 d2)).n
 (tamP (3 : Int) (Int.toNat (4 : Int)) (ex k2 n2 v2 d2)).v
 (dE (tamP (3 : Int) (Int.toNat (4 : Int)) (ex k2 n2 v2 d2)).kids)))).snd ==
 (3 : Int)) ||
 !(asmZ (↑(rowI (3 : Nat) (hz fun (j : Nat) => if c = true then b j else a j)).len : Int) i
 (ex
 (ex (tamP (3 : Int) (Int.toNat (4 : Int)) (ex k n v d)).k
 (tamP (3 : Int) (Int.toNat (4 : Int)) (ex k n v d)).n
 (tamP (3 : Int) (Int.toNat (4 : Int)) (ex k n v d)).v
 (dE (tamP (3 : Int) (Int.toNat (4 : Int)) (ex k n v d)).kids)).k
 (ex (tamP (3 : Int) (Int.toNat (4 : Int)) (ex k n v d)).k
 (tamP (3 : Int) (Int.toNat (4 : Int)) (ex k n v d)).n
 (tamP (3 : Int) (Int.toNat (4 : Int)) (ex k n v d)).v
 (dE (tamP (3 : Int) (Int.toNat (4 : Int)) (ex k n v d)).kids)).n
 (ex (tamP (3 : Int) (Int.toNat (4 : Int)) (ex k n v d)).k
 (tamP (3 : Int) (Int.toNat (4 : Int)) (ex k n v d)).n
 (tamP (3 : Int) (Int.toNat (4 : Int)) (ex k n v d)).v
 (dE (tamP (3 : Int) (Int.toNat (4 : Int)) (ex k n v d)).kids)).v
 (dE
 (ex (tamP (3 : Int) (Int.toNat (4 : Int)) (ex k n v d)).k
 (tamP (3 : Int) (Int.toNat (4 : Int)) (ex k n v d)).n
 (tamP (3 : Int) (Int.toNat (4 : Int)) (ex k n v d)).v
 (dE (tamP (3 : Int) (Int.toNat (4 : Int)) (ex k n v d)).kids)).kids))
 (ex
 (ex (tamP (3 : Int) (Int.toNat (4 : Int)) (ex k2 n2 v2 d2)).k
 (tamP (3 : Int) (Int.toNat (4 : Int)) (ex k2 n2 v2 d2)).n
 (tamP (3 : Int) (Int.toNat (4 : Int)) (ex k2 n2 v2 d2)).v
 (dE (tamP (3 : Int) (Int.toNat (4 : Int)) (ex k2 n2 v2 d2)).kids)).k
 (ex (tamP (3 : Int) (Int.toNat (4 : Int)) (ex k2 n2 v2 d2)).k
 (tamP (3 : Int) (Int.toNat (4 : Int)) (ex k2 n2 v2 d2)).n
 (tamP (3 : Int) (Int.toNat (4 : Int)) (ex k2 n2 v2 d2)).v
 (dE (tamP (3 : Int) (Int.toNat (4 : Int)) (ex k2 n2 v2 d2)).kids)).n
 (ex (tamP (3 : Int) (Int.toNat (4 : Int)) (ex k2 n2 v2 d2)).k
 (tamP (3 : Int) (Int.toNat (4 : Int)) (ex k2 n2 v2 d2)).n
 (tamP (3 : Int) (Int.toNat (4 : Int)) (ex k2 n2 v2 d2)).v
 (dE (tamP (3 : Int) (Int.toNat (4 : Int)) (ex k2 n2 v2 d2)).kids)).v
 (dE
 (ex (tamP (3 : Int) (Int.toNat (4 : Int)) (ex k2 n2 v2 d2)).k
 (tamP (3 : Int) (Int.toNat (4 : Int)) (ex k2 n2 v2 d2)).n
 (tamP (3 : Int) (Int.toNat (4 : Int)) (ex k2 n2 v2 d2)).v
 (dE (tamP (3 : Int) (Int.toNat (4 : Int)) (ex k2 n2 v2 d2)).kids)).kids))
 ((rowZ (↑(rowI (3 : Nat) (hz fun (j : Nat) => if c = true then b j else a j)).len : Int)
 (fun (j : Nat) =>
 vD (rowI (3 : Nat) (hz fun (j : Nat) => if c = true then b j else a j))
 (↑j : Int))
 (rowI (3 : Nat) (hz fun (j : Nat) => if c = true then b j else a j)).len).fst,
 (rowZ (↑(rowI (3 : Nat) (hz fun (j : Nat) => if c = true then b j else a j)).len : Int)
 (fun (j : Nat) =>
 vD (rowI (3 : Nat) (hz fun (j : Nat) => if c = true then b j else a j))
 (↑j : Int))
 (rowI (3 : Nat)
 (hz fun (j : Nat) => if c = true then b j else a j)).len).snd)).fst.fst ==
 ((hldT i
 (evT (vD (rowI (3 : Nat) (hz fun (j : Nat) => if c = true then b j else a j)))
 (ex (tamP (3 : Int) (Int.toNat (4 : Int)) (ex k n v d)).k
 (tamP (3 : Int) (Int.toNat (4 : Int)) (ex k n v d)).n
 (tamP (3 : Int) (Int.toNat (4 : Int)) (ex k n v d)).v
 (dE (tamP (3 : Int) (Int.toNat (4 : Int)) (ex k n v d)).kids)))
 (evT (vD (rowI (3 : Nat) (hz fun (j : Nat) => if c = true then b j else a j)))
 (ex (tamP (3 : Int) (Int.toNat (4 : Int)) (ex k2 n2 v2 d2)).k
 (tamP (3 : Int) (Int.toNat (4 : Int)) (ex k2 n2 v2 d2)).n
 (tamP (3 : Int) (Int.toNat (4 : Int)) (ex k2 n2 v2 d2)).v
 (dE (tamP (3 : Int) (Int.toNat (4 : Int)) (ex k2 n2 v2 d2)).kids)))).snd !=
 (0 : Int) ||
 !(hldT i
 (evT (vD (rowI (3 : Nat) (hz fun (j : Nat) => if c = true then b j else a j)))
 (ex (tamP (3 : Int) (Int.toNat (4 : Int)) (ex k n v d)).k
 (tamP (3 : Int) (Int.toNat (4 : Int)) (ex k n v d)).n
 (tamP (3 : Int) (Int.toNat (4 : Int)) (ex k n v d)).v
 (dE (tamP (3 : Int) (Int.toNat (4 : Int)) (ex k n v d)).kids)))
 (evT (vD (rowI (3 : Nat) (hz fun (j : Nat) => if c = true then b j else a j)))
 (ex (tamP (3 : Int) (Int.toNat (4 : Int)) (ex k2 n2 v2 d2)).k
 (tamP (3 : Int) (Int.toNat (4 : Int)) (ex k2 n2 v2 d2)).n
 (tamP (3 : Int) (Int.toNat (4 : Int)) (ex k2 n2 v2 d2)).v
 (dE (tamP (3 : Int) (Int.toNat (4 : Int)) (ex k2 n2 v2 d2)).kids)))).fst)) =
 true →
 false = true) ∧
 ((!(asmZ (↑(rowI (3 : Nat) (hz fun (j : Nat) => if c = true then b j else a j)).len : Int) i
 (ex
 (ex (tamP (3 : Int) (Int.toNat (4 : Int)) (ex k n v d)).k
 (tamP (3 : Int) (Int.toNat (4 : Int)) (ex k n v d)).n
 (tamP (3 : Int) (Int.toNat (4 : Int)) (ex k n v d)).v
 (dE (tamP (3 : Int) (Int.toNat (4 : Int)) (ex k n v d)).kids)).k
 (ex (tamP (3 : Int) (Int.toNat (4 : Int)) (ex k n v d)).k
 (tamP (3 : Int) (Int.toNat (4 : Int)) (ex k n v d)).n
 (tamP (3 : Int) (Int.toNat (4 : Int)) (ex k n v d)).v
 (dE (tamP (3 : Int) (Int.toNat (4 : Int)) (ex k n v d)).kids)).n
 (ex (tamP (3 : Int) (Int.toNat (4 : Int)) (ex k n v d)).k
 (tamP (3 : Int) (Int.toNat (4 : Int)) (ex k n v d)).n
 (tamP (3 : Int) (Int.toNat (4 : Int)) (ex k n v d)).v
 (dE (tamP (3 : Int) (Int.toNat (4 : Int)) (ex k n v d)).kids)).v
 (dE
 (ex (tamP (3 : Int) (Int.toNat (4 : Int)) (ex k n v d)).k
 (tamP (3 : Int) (Int.toNat (4 : Int)) (ex k n v d)).n
 (tamP (3 : Int) (Int.toNat (4 : Int)) (ex k n v d)).v
 (dE (tamP (3 : Int) (Int.toNat (4 : Int)) (ex k n v d)).kids)).kids))
 (ex
 (ex (tamP (3 : Int) (Int.toNat (4 : Int)) (ex k2 n2 v2 d2)).k
 (tamP (3 : Int) (Int.toNat (4 : Int)) (ex k2 n2 v2 d2)).n
 (tamP (3 : Int) (Int.toNat (4 : Int)) (ex k2 n2 v2 d2)).v
 (dE (tamP (3 : Int) (Int.toNat (4 : Int)) (ex k2 n2 v2 d2)).kids)).k
 (ex (tamP (3 : Int) (Int.toNat (4 : Int)) (ex k2 n2 v2 d2)).k
 (tamP (3 : Int) (Int.toNat (4 : Int)) (ex k2 n2 v2 d2)).n
 (tamP (3 : Int) (Int.toNat (4 : Int)) (ex k2 n2 v2 d2)).v
 (dE (tamP (3 : Int) (Int.toNat (4 : Int)) (ex k2 n2 v2 d2)).kids)).n
 (ex (tamP (3 : Int) (Int.toNat (4 : Int)) (ex k2 n2 v2 d2)).k
 (tamP (3 : Int) (Int.toNat (4 : Int)) (ex k2 n2 v2 d2)).n
 (tamP (3 : Int) (Int.toNat (4 : Int)) (ex k2 n2 v2 d2)).v
 (dE (tamP (3 : Int) (Int.toNat (4 : Int)) (ex k2 n2 v2 d2)).kids)).v
 (dE
 (ex (tamP (3 : Int) (Int.toNat (4 : Int)) (ex k2 n2 v2 d2)).k
 (tamP (3 : Int) (Int.toNat (4 : Int)) (ex k2 n2 v2 d2)).n
 (tamP (3 : Int) (Int.toNat (4 : Int)) (ex k2 n2 v2 d2)).v
 (dE (tamP (3 : Int) (Int.toNat (4 : Int)) (ex k2 n2 v2 d2)).kids)).kids))
 ((rowZ (↑(rowI (3 : Nat) (hz fun (j : Nat) => if c = true then b j else a j)).len : Int)
 (fun (j : Nat) =>
 vD (rowI (3 : Nat) (hz fun (j : Nat) => if c = true then b j else a j))
 (↑j : Int))
 (rowI (3 : Nat) (hz fun (j : Nat) => if c = true then b j else a j)).len).fst,
 (rowZ
 (↑(rowI (3 : Nat) (hz fun (j : Nat) => if c = true then b j else a j)).len : Int)
 (fun (j : Nat) =>
 vD (rowI (3 : Nat) (hz fun (j : Nat) => if c = true then b j else a j))
 (↑j : Int))
 (rowI (3 : Nat)
 (hz fun (j : Nat) => if c = true then b j else a j)).len).snd)).snd.fst ==
 ((hldT i
 (evT (vD (rowI (3 : Nat) (hz fun (j : Nat) => if c = true then b j else a j)))
 (ex (tamP (3 : Int) (Int.toNat (4 : Int)) (ex k n v d)).k
 (tamP (3 : Int) (Int.toNat (4 : Int)) (ex k n v d)).n
 (tamP (3 : Int) (Int.toNat (4 : Int)) (ex k n v d)).v
 (dE (tamP (3 : Int) (Int.toNat (4 : Int)) (ex k n v d)).kids)))
 (evT (vD (rowI (3 : Nat) (hz fun (j : Nat) => if c = true then b j else a j)))
 (ex (tamP (3 : Int) (Int.toNat (4 : Int)) (ex k2 n2 v2 d2)).k
 (tamP (3 : Int) (Int.toNat (4 : Int)) (ex k2 n2 v2 d2)).n
 (tamP (3 : Int) (Int.toNat (4 : Int)) (ex k2 n2 v2 d2)).v
 (dE (tamP (3 : Int) (Int.toNat (4 : Int)) (ex k2 n2 v2 d2)).kids)))).snd ==
 (2 : Int)) ||
 !(asmZ (↑(rowI (3 : Nat) (hz fun (j : Nat) => if c = true then b j else a j)).len : Int) i
 (ex
 (ex (tamP (3 : Int) (Int.toNat (4 : Int)) (ex k n v d)).k
 (tamP (3 : Int) (Int.toNat (4 : Int)) (ex k n v d)).n
 (tamP (3 : Int) (Int.toNat (4 : Int)) (ex k n v d)).v
 (dE (tamP (3 : Int) (Int.toNat (4 : Int)) (ex k n v d)).kids)).k
 (ex (tamP (3 : Int) (Int.toNat (4 : Int)) (ex k n v d)).k
 (tamP (3 : Int) (Int.toNat (4 : Int)) (ex k n v d)).n
 (tamP (3 : Int) (Int.toNat (4 : Int)) (ex k n v d)).v
 (dE (tamP (3 : Int) (Int.toNat (4 : Int)) (ex k n v d)).kids)).n
 (ex (tamP (3 : Int) (Int.toNat (4 : Int)) (ex k n v d)).k
 (tamP (3 : Int) (Int.toNat (4 : Int)) (ex k n v d)).n
 (tamP (3 : Int) (Int.toNat (4 : Int)) (ex k n v d)).v
 (dE (tamP (3 : Int) (Int.toNat (4 : Int)) (ex k n v d)).kids)).v
 (dE
 (ex (tamP (3 : Int) (Int.toNat (4 : Int)) (ex k n v d)).k
 (tamP (3 : Int) (Int.toNat (4 : Int)) (ex k n v d)).n
 (tamP (3 : Int) (Int.toNat (4 : Int)) (ex k n v d)).v
 (dE (tamP (3 : Int) (Int.toNat (4 : Int)) (ex k n v d)).kids)).kids))
 (ex
 (ex (tamP (3 : Int) (Int.toNat (4 : Int)) (ex k2 n2 v2 d2)).k
 (tamP (3 : Int) (Int.toNat (4 : Int)) (ex k2 n2 v2 d2)).n
 (tamP (3 : Int) (Int.toNat (4 : Int)) (ex k2 n2 v2 d2)).v
 (dE (tamP (3 : Int) (Int.toNat (4 : Int)) (ex k2 n2 v2 d2)).kids)).k
 (ex (tamP (3 : Int) (Int.toNat (4 : Int)) (ex k2 n2 v2 d2)).k
 (tamP (3 : Int) (Int.toNat (4 : Int)) (ex k2 n2 v2 d2)).n
 (tamP (3 : Int) (Int.toNat (4 : Int)) (ex k2 n2 v2 d2)).v
 (dE (tamP (3 : Int) (Int.toNat (4 : Int)) (ex k2 n2 v2 d2)).kids)).n
 (ex (tamP (3 : Int) (Int.toNat (4 : Int)) (ex k2 n2 v2 d2)).k
 (tamP (3 : Int) (Int.toNat (4 : Int)) (ex k2 n2 v2 d2)).n
 (tamP (3 : Int) (Int.toNat (4 : Int)) (ex k2 n2 v2 d2)).v
 (dE (tamP (3 : Int) (Int.toNat (4 : Int)) (ex k2 n2 v2 d2)).kids)).v
 (dE
 (ex (tamP (3 : Int) (Int.toNat (4 : Int)) (ex k2 n2 v2 d2)).k
 (tamP (3 : Int) (Int.toNat (4 : Int)) (ex k2 n2 v2 d2)).n
 (tamP (3 : Int) (Int.toNat (4 : Int)) (ex k2 n2 v2 d2)).v
 (dE (tamP (3 : Int) (Int.toNat (4 : Int)) (ex k2 n2 v2 d2)).kids)).kids))
 ((rowZ (↑(rowI (3 : Nat) (hz fun (j : Nat) => if c = true then b j else a j)).len : Int)
 (fun (j : Nat) =>
 vD (rowI (3 : Nat) (hz fun (j : Nat) => if c = true then b j else a j))
 (↑j : Int))
 (rowI (3 : Nat) (hz fun (j : Nat) => if c = true then b j else a j)).len).fst,
 (rowZ
 (↑(rowI (3 : Nat) (hz fun (j : Nat) => if c = true then b j else a j)).len : Int)
 (fun (j : Nat) =>
 vD (rowI (3 : Nat) (hz fun (j : Nat) => if c = true then b j else a j))
 (↑j : Int))
 (rowI (3 : Nat)
 (hz fun (j : Nat) => if c = true then b j else a j)).len).snd)).snd.snd ==
 ((hldT i
 (evT (vD (rowI (3 : Nat) (hz fun (j : Nat) => if c = true then b j else a j)))
 (ex (tamP (3 : Int) (Int.toNat (4 : Int)) (ex k n v d)).k
 (tamP (3 : Int) (Int.toNat (4 : Int)) (ex k n v d)).n
 (tamP (3 : Int) (Int.toNat (4 : Int)) (ex k n v d)).v
 (dE (tamP (3 : Int) (Int.toNat (4 : Int)) (ex k n v d)).kids)))
 (evT (vD (rowI (3 : Nat) (hz fun (j : Nat) => if c = true then b j else a j)))
 (ex (tamP (3 : Int) (Int.toNat (4 : Int)) (ex k2 n2 v2 d2)).k
 (tamP (3 : Int) (Int.toNat (4 : Int)) (ex k2 n2 v2 d2)).n
 (tamP (3 : Int) (Int.toNat (4 : Int)) (ex k2 n2 v2 d2)).v
 (dE (tamP (3 : Int) (Int.toNat (4 : Int)) (ex k2 n2 v2 d2)).kids)))).snd ==
 (3 : Int)) ||
 !(asmZ (↑(rowI (3 : Nat) (hz fun (j : Nat) => if c = true then b j else a j)).len : Int) i
 (ex
 (ex (tamP (3 : Int) (Int.toNat (4 : Int)) (ex k n v d)).k
 (tamP (3 : Int) (Int.toNat (4 : Int)) (ex k n v d)).n
 (tamP (3 : Int) (Int.toNat (4 : Int)) (ex k n v d)).v
 (dE (tamP (3 : Int) (Int.toNat (4 : Int)) (ex k n v d)).kids)).k
 (ex (tamP (3 : Int) (Int.toNat (4 : Int)) (ex k n v d)).k
 (tamP (3 : Int) (Int.toNat (4 : Int)) (ex k n v d)).n
 (tamP (3 : Int) (Int.toNat (4 : Int)) (ex k n v d)).v
 (dE (tamP (3 : Int) (Int.toNat (4 : Int)) (ex k n v d)).kids)).n
 (ex (tamP (3 : Int) (Int.toNat (4 : Int)) (ex k n v d)).k
 (tamP (3 : Int) (Int.toNat (4 : Int)) (ex k n v d)).n
 (tamP (3 : Int) (Int.toNat (4 : Int)) (ex k n v d)).v
 (dE (tamP (3 : Int) (Int.toNat (4 : Int)) (ex k n v d)).kids)).v
 (dE
 (ex (tamP (3 : Int) (Int.toNat (4 : Int)) (ex k n v d)).k
 (tamP (3 : Int) (Int.toNat (4 : Int)) (ex k n v d)).n
 (tamP (3 : Int) (Int.toNat (4 : Int)) (ex k n v d)).v
 (dE (tamP (3 : Int) (Int.toNat (4 : Int)) (ex k n v d)).kids)).kids))
 (ex
 (ex (tamP (3 : Int) (Int.toNat (4 : Int)) (ex k2 n2 v2 d2)).k
 (tamP (3 : Int) (Int.toNat (4 : Int)) (ex k2 n2 v2 d2)).n
 (tamP (3 : Int) (Int.toNat (4 : Int)) (ex k2 n2 v2 d2)).v
 (dE (tamP (3 : Int) (Int.toNat (4 : Int)) (ex k2 n2 v2 d2)).kids)).k
 (ex (tamP (3 : Int) (Int.toNat (4 : Int)) (ex k2 n2 v2 d2)).k
 (tamP (3 : Int) (Int.toNat (4 : Int)) (ex k2 n2 v2 d2)).n
 (tamP (3 : Int) (Int.toNat (4 : Int)) (ex k2 n2 v2 d2)).v
 (dE (tamP (3 : Int) (Int.toNat (4 : Int)) (ex k2 n2 v2 d2)).kids)).n
 (ex (tamP (3 : Int) (Int.toNat (4 : Int)) (ex k2 n2 v2 d2)).k
 (tamP (3 : Int) (Int.toNat (4 : Int)) (ex k2 n2 v2 d2)).n
 (tamP (3 : Int) (Int.toNat (4 : Int)) (ex k2 n2 v2 d2)).v
 (dE (tamP (3 : Int) (Int.toNat (4 : Int)) (ex k2 n2 v2 d2)).kids)).v
 (dE
 (ex (tamP (3 : Int) (Int.toNat (4 : Int)) (ex k2 n2 v2 d2)).k
 (tamP (3 : Int) (Int.toNat (4 : Int)) (ex k2 n2 v2 d2)).n
 (tamP (3 : Int) (Int.toNat (4 : Int)) (ex k2 n2 v2 d2)).v
 (dE (tamP (3 : Int) (Int.toNat (4 : Int)) (ex k2 n2 v2 d2)).kids)).kids))
 ((rowZ (↑(rowI (3 : Nat) (hz fun (j : Nat) => if c = true then b j else a j)).len : Int)
 (fun (j : Nat) =>
 vD (rowI (3 : Nat) (hz fun (j : Nat) => if c = true then b j else a j))
 (↑j : Int))
 (rowI (3 : Nat) (hz fun (j : Nat) => if c = true then b j else a j)).len).fst,
 (rowZ (↑(rowI (3 : Nat) (hz fun (j : Nat) => if c = true then b j else a j)).len : Int)
 (fun (j : Nat) =>
 vD (rowI (3 : Nat) (hz fun (j : Nat) => if c = true then b j else a j))
 (↑j : Int))
 (rowI (3 : Nat)
 (hz fun (j : Nat) => if c = true then b j else a j)).len).snd)).fst.fst ==
 ((hldT i
 (evT (vD (rowI (3 : Nat) (hz fun (j : Nat) => if c = true then b j else a j)))
 (ex (tamP (3 : Int) (Int.toNat (4 : Int)) (ex k n v d)).k
 (tamP (3 : Int) (Int.toNat (4 : Int)) (ex k n v d)).n
 (tamP (3 : Int) (Int.toNat (4 : Int)) (ex k n v d)).v
 (dE (tamP (3 : Int) (Int.toNat (4 : Int)) (ex k n v d)).kids)))
 (evT (vD (rowI (3 : Nat) (hz fun (j : Nat) => if c = true then b j else a j)))
 (ex (tamP (3 : Int) (Int.toNat (4 : Int)) (ex k2 n2 v2 d2)).k
 (tamP (3 : Int) (Int.toNat (4 : Int)) (ex k2 n2 v2 d2)).n
 (tamP (3 : Int) (Int.toNat (4 : Int)) (ex k2 n2 v2 d2)).v
 (dE (tamP (3 : Int) (Int.toNat (4 : Int)) (ex k2 n2 v2 d2)).kids)))).snd !=
 (0 : Int) ||
 !(hldT i
 (evT (vD (rowI (3 : Nat) (hz fun (j : Nat) => if c = true then b j else a j)))
 (ex (tamP (3 : Int) (Int.toNat (4 : Int)) (ex k n v d)).k
 (tamP (3 : Int) (Int.toNat (4 : Int)) (ex k n v d)).n
 (tamP (3 : Int) (Int.toNat (4 : Int)) (ex k n v d)).v
 (dE (tamP (3 : Int) (Int.toNat (4 : Int)) (ex k n v d)).kids)))
 (evT (vD (rowI (3 : Nat) (hz fun (j : Nat) => if c = true then b j else a j)))
 (ex (tamP (3 : Int) (Int.toNat (4 : Int)) (ex k2 n2 v2 d2)).k
 (tamP (3 : Int) (Int.toNat (4 : Int)) (ex k2 n2 v2 d2)).n
 (tamP (3 : Int) (Int.toNat (4 : Int)) (ex k2 n2 v2 d2)).v
 (dE (tamP (3 : Int) (Int.toNat (4 : Int)) (ex k2 n2 v2 d2)).kids)))).fst)) =
 false →
 ((!(asmZ (↑(rowI (3 : Nat) (hz fun (j : Nat) => if c = true then b j else a j)).len : Int) i
 (ex
 (ex (tamP (3 : Int) (Int.toNat (4 : Int)) (ex k n v d)).k
 (tamP (3 : Int) (Int.toNat (4 : Int)) (ex k n v d)).n
 (tamP (3 : Int) (Int.toNat (4 : Int)) (ex k n v d)).v
 (dE (tamP (3 : Int) (Int.toNat (4 : Int)) (ex k n v d)).kids)).k
 (ex (tamP (3 : Int) (Int.toNat (4 : Int)) (ex k n v d)).k
 (tamP (3 : Int) (Int.toNat (4 : Int)) (ex k n v d)).n
 (tamP (3 : Int) (Int.toNat (4 : Int)) (ex k n v d)).v
 (dE (tamP (3 : Int) (Int.toNat (4 : Int)) (ex k n v d)).kids)).n
 (ex (tamP (3 : Int) (Int.toNat (4 : Int)) (ex k n v d)).k
 (tamP (3 : Int) (Int.toNat (4 : Int)) (ex k n v d)).n
 (tamP (3 : Int) (Int.toNat (4 : Int)) (ex k n v d)).v
 (dE (tamP (3 : Int) (Int.toNat (4 : Int)) (ex k n v d)).kids)).v
 (dE
 (ex (tamP (3 : Int) (Int.toNat (4 : Int)) (ex k n v d)).k
 (tamP (3 : Int) (Int.toNat (4 : Int)) (ex k n v d)).n
 (tamP (3 : Int) (Int.toNat (4 : Int)) (ex k n v d)).v
 (dE (tamP (3 : Int) (Int.toNat (4 : Int)) (ex k n v d)).kids)).kids))
 (ex
 (ex (tamP (3 : Int) (Int.toNat (4 : Int)) (ex k2 n2 v2 d2)).k
 (tamP (3 : Int) (Int.toNat (4 : Int)) (ex k2 n2 v2 d2)).n
 (tamP (3 : Int) (Int.toNat (4 : Int)) (ex k2 n2 v2 d2)).v
 (dE (tamP (3 : Int) (Int.toNat (4 : Int)) (ex k2 n2 v2 d2)).kids)).k
 (ex (tamP (3 : Int) (Int.toNat (4 : Int)) (ex k2 n2 v2 d2)).k
 (tamP (3 : Int) (Int.toNat (4 : Int)) (ex k2 n2 v2 d2)).n
 (tamP (3 : Int) (Int.toNat (4 : Int)) (ex k2 n2 v2 d2)).v
 (dE (tamP (3 : Int) (Int.toNat (4 : Int)) (ex k2 n2 v2 d2)).kids)).n
 (ex (tamP (3 : Int) (Int.toNat (4 : Int)) (ex k2 n2 v2 d2)).k
 (tamP (3 : Int) (Int.toNat (4 : Int)) (ex k2 n2 v2 d2)).n
 (tamP (3 : Int) (Int.toNat (4 : Int)) (ex k2 n2 v2 d2)).v
 (dE (tamP (3 : Int) (Int.toNat (4 : Int)) (ex k2 n2 v2 d2)).kids)).v
 (dE
 (ex (tamP (3 : Int) (Int.toNat (4 : Int)) (ex k2 n2 v2 d2)).k
 (tamP (3 : Int) (Int.toNat (4 : Int)) (ex k2 n2 v2 d2)).n
 (tamP (3 : Int) (Int.toNat (4 : Int)) (ex k2 n2 v2 d2)).v
 (dE (tamP (3 : Int) (Int.toNat (4 : Int)) (ex k2 n2 v2 d2)).kids)).kids))
 ((rowZ (↑(rowI (3 : Nat) (hz fun (j : Nat) => if c = true then b j else a j)).len : Int)
 (fun (j : Nat) =>
 vD (rowI (3 : Nat) (hz fun (j : Nat) => if c = true then b j else a j))
 (↑j : Int))
 (rowI (3 : Nat) (hz fun (j : Nat) => if c = true then b j else a j)).len).fst,
 (rowZ
 (↑(rowI (3 : Nat) (hz fun (j : Nat) => if c = true then b j else a j)).len : Int)
 (fun (j : Nat) =>
 vD (rowI (3 : Nat) (hz fun (j : Nat) => if c = true then b j else a j))
 (↑j : Int))
 (rowI (3 : Nat)
 (hz fun (j : Nat) => if c = true then b j else a j)).len).snd)).fst.fst) =
 true ∧
 True →
 (rowI (3 : Nat) (hz fun (j : Nat) => if c = true then b j else a j)).len ≤ (6 : Nat)) ∧
 ((!(asmZ (↑(rowI (3 : Nat) (hz fun (j : Nat) => if c = true then b j else a j)).len : Int) i
 (ex
 (ex (tamP (3 : Int) (Int.toNat (4 : Int)) (ex k n v d)).k
 (tamP (3 : Int) (Int.toNat (4 : Int)) (ex k n v d)).n
 (tamP (3 : Int) (Int.toNat (4 : Int)) (ex k n v d)).v
 (dE (tamP (3 : Int) (Int.toNat (4 : Int)) (ex k n v d)).kids)).k
 (ex (tamP (3 : Int) (Int.toNat (4 : Int)) (ex k n v d)).k
 (tamP (3 : Int) (Int.toNat (4 : Int)) (ex k n v d)).n
 (tamP (3 : Int) (Int.toNat (4 : Int)) (ex k n v d)).v
 (dE (tamP (3 : Int) (Int.toNat (4 : Int)) (ex k n v d)).kids)).n
 (ex (tamP (3 : Int) (Int.toNat (4 : Int)) (ex k n v d)).k
 (tamP (3 : Int) (Int.toNat (4 : Int)) (ex k n v d)).n
 (tamP (3 : Int) (Int.toNat (4 : Int)) (ex k n v d)).v
 (dE (tamP (3 : Int) (Int.toNat (4 : Int)) (ex k n v d)).kids)).v
 (dE
 (ex (tamP (3 : Int) (Int.toNat (4 : Int)) (ex k n v d)).k
 (tamP (3 : Int) (Int.toNat (4 : Int)) (ex k n v d)).n
 (tamP (3 : Int) (Int.toNat (4 : Int)) (ex k n v d)).v
 (dE (tamP (3 : Int) (Int.toNat (4 : Int)) (ex k n v d)).kids)).kids))
 (ex
 (ex (tamP (3 : Int) (Int.toNat (4 : Int)) (ex k2 n2 v2 d2)).k
 (tamP (3 : Int) (Int.toNat (4 : Int)) (ex k2 n2 v2 d2)).n
 (tamP (3 : Int) (Int.toNat (4 : Int)) (ex k2 n2 v2 d2)).v
 (dE (tamP (3 : Int) (Int.toNat (4 : Int)) (ex k2 n2 v2 d2)).kids)).k
 (ex (tamP (3 : Int) (Int.toNat (4 : Int)) (ex k2 n2 v2 d2)).k
 (tamP (3 : Int) (Int.toNat (4 : Int)) (ex k2 n2 v2 d2)).n
 (tamP (3 : Int) (Int.toNat (4 : Int)) (ex k2 n2 v2 d2)).v
 (dE (tamP (3 : Int) (Int.toNat (4 : Int)) (ex k2 n2 v2 d2)).kids)).n
 (ex (tamP (3 : Int) (Int.toNat (4 : Int)) (ex k2 n2 v2 d2)).k
 (tamP (3 : Int) (Int.toNat (4 : Int)) (ex k2 n2 v2 d2)).n
 (tamP (3 : Int) (Int.toNat (4 : Int)) (ex k2 n2 v2 d2)).v
 (dE (tamP (3 : Int) (Int.toNat (4 : Int)) (ex k2 n2 v2 d2)).kids)).v
 (dE
 (ex (tamP (3 : Int) (Int.toNat (4 : Int)) (ex k2 n2 v2 d2)).k
 (tamP (3 : Int) (Int.toNat (4 : Int)) (ex k2 n2 v2 d2)).n
 (tamP (3 : Int) (Int.toNat (4 : Int)) (ex k2 n2 v2 d2)).v
 (dE (tamP (3 : Int) (Int.toNat (4 : Int)) (ex k2 n2 v2 d2)).kids)).kids))
 ((rowZ
 (↑(rowI (3 : Nat) (hz fun (j : Nat) => if c = true then b j else a j)).len :
 Int)
 (fun (j : Nat) =>
 vD (rowI (3 : Nat) (hz fun (j : Nat) => if c = true then b j else a j))
 (↑j : Int))
 (rowI (3 : Nat) (hz fun (j : Nat) => if c = true then b j else a j)).len).fst,
 (rowZ
 (↑(rowI (3 : Nat) (hz fun (j : Nat) => if c = true then b j else a j)).len :
 Int)
 (fun (j : Nat) =>
 vD (rowI (3 : Nat) (hz fun (j : Nat) => if c = true then b j else a j))
 (↑j : Int))
 (rowI (3 : Nat)
 (hz fun (j : Nat) => if c = true then b j else a j)).len).snd)).fst.fst &&
 !withinP (↑(rowI (3 : Nat) (hz fun (j : Nat) => if c = true then b j else a j)).len : Int)
 (rowZ (↑(rowI (3 : Nat) (hz fun (j : Nat) => if c = true then b j else a j)).len : Int)
 (fun (j : Nat) =>
 vD (rowI (3 : Nat) (hz fun (j : Nat) => if c = true then b j else a j)) (↑j : Int))
 (rowI (3 : Nat) (hz fun (j : Nat) => if c = true then b j else a j)).len).fst
 (rowZ (↑(rowI (3 : Nat) (hz fun (j : Nat) => if c = true then b j else a j)).len : Int)
 (fun (j : Nat) =>
 vD (rowI (3 : Nat) (hz fun (j : Nat) => if c = true then b j else a j)) (↑j : Int))
 (rowI (3 : Nat) (hz fun (j : Nat) => if c = true then b j else a j)).len).snd
 (↑(rowI (3 : Nat) (hz fun (j : Nat) => if c = true then b j else a j)).len : Int)
 (asmZ (↑(rowI (3 : Nat) (hz fun (j : Nat) => if c = true then b j else a j)).len : Int) i
 (ex
 (ex (tamP (3 : Int) (Int.toNat (4 : Int)) (ex k n v d)).k
 (tamP (3 : Int) (Int.toNat (4 : Int)) (ex k n v d)).n
 (tamP (3 : Int) (Int.toNat (4 : Int)) (ex k n v d)).v
 (dE (tamP (3 : Int) (Int.toNat (4 : Int)) (ex k n v d)).kids)).k
 (ex (tamP (3 : Int) (Int.toNat (4 : Int)) (ex k n v d)).k
 (tamP (3 : Int) (Int.toNat (4 : Int)) (ex k n v d)).n
 (tamP (3 : Int) (Int.toNat (4 : Int)) (ex k n v d)).v
 (dE (tamP (3 : Int) (Int.toNat (4 : Int)) (ex k n v d)).kids)).n
 (ex (tamP (3 : Int) (Int.toNat (4 : Int)) (ex k n v d)).k
 (tamP (3 : Int) (Int.toNat (4 : Int)) (ex k n v d)).n
 (tamP (3 : Int) (Int.toNat (4 : Int)) (ex k n v d)).v
 (dE (tamP (3 : Int) (Int.toNat (4 : Int)) (ex k n v d)).kids)).v
 (dE
 (ex (tamP (3 : Int) (Int.toNat (4 : Int)) (ex k n v d)).k
 (tamP (3 : Int) (Int.toNat (4 : Int)) (ex k n v d)).n
 (tamP (3 : Int) (Int.toNat (4 : Int)) (ex k n v d)).v
 (dE (tamP (3 : Int) (Int.toNat (4 : Int)) (ex k n v d)).kids)).kids))
 (ex
 (ex (tamP (3 : Int) (Int.toNat (4 : Int)) (ex k2 n2 v2 d2)).k
 (tamP (3 : Int) (Int.toNat (4 : Int)) (ex k2 n2 v2 d2)).n
 (tamP (3 : Int) (Int.toNat (4 : Int)) (ex k2 n2 v2 d2)).v
 (dE (tamP (3 : Int) (Int.toNat (4 : Int)) (ex k2 n2 v2 d2)).kids)).k
 (ex (tamP (3 : Int) (Int.toNat (4 : Int)) (ex k2 n2 v2 d2)).k
 (tamP (3 : Int) (Int.toNat (4 : Int)) (ex k2 n2 v2 d2)).n
 (tamP (3 : Int) (Int.toNat (4 : Int)) (ex k2 n2 v2 d2)).v
 (dE (tamP (3 : Int) (Int.toNat (4 : Int)) (ex k2 n2 v2 d2)).kids)).n
 (ex (tamP (3 : Int) (Int.toNat (4 : Int)) (ex k2 n2 v2 d2)).k
 (tamP (3 : Int) (Int.toNat (4 : Int)) (ex k2 n2 v2 d2)).n
 (tamP (3 : Int) (Int.toNat (4 : Int)) (ex k2 n2 v2 d2)).v
 (dE (tamP (3 : Int) (Int.toNat (4 : Int)) (ex k2 n2 v2 d2)).kids)).v
 (dE
 (ex (tamP (3 : Int) (Int.toNat (4 : Int)) (ex k2 n2 v2 d2)).k
 (tamP (3 : Int) (Int.toNat (4 : Int)) (ex k2 n2 v2 d2)).n
 (tamP (3 : Int) (Int.toNat (4 : Int)) (ex k2 n2 v2 d2)).v
 (dE (tamP (3 : Int) (Int.toNat (4 : Int)) (ex k2 n2 v2 d2)).kids)).kids))
 ((rowZ
 (↑(rowI (3 : Nat) (hz fun (j : Nat) => if c = true then b j else a j)).len :
 Int)
 (fun (j : Nat) =>
 vD (rowI (3 : Nat) (hz fun (j : Nat) => if c = true then b j else a j))
 (↑j : Int))
 (rowI (3 : Nat) (hz fun (j : Nat) => if c = true then b j else a j)).len).fst,
 (rowZ
 (↑(rowI (3 : Nat) (hz fun (j : Nat) => if c = true then b j else a j)).len :
 Int)
 (fun (j : Nat) =>
 vD (rowI (3 : Nat) (hz fun (j : Nat) => if c = true then b j else a j))
 (↑j : Int))
 (rowI (3 : Nat)
 (hz fun (j : Nat) => if c = true then b j else a j)).len).snd)).fst.fst
 (asmZ (↑(rowI (3 : Nat) (hz fun (j : Nat) => if c = true then b j else a j)).len : Int) i
 (ex
 (ex (tamP (3 : Int) (Int.toNat (4 : Int)) (ex k n v d)).k
 (tamP (3 : Int) (Int.toNat (4 : Int)) (ex k n v d)).n
 (tamP (3 : Int) (Int.toNat (4 : Int)) (ex k n v d)).v
 (dE (tamP (3 : Int) (Int.toNat (4 : Int)) (ex k n v d)).kids)).k
 (ex (tamP (3 : Int) (Int.toNat (4 : Int)) (ex k n v d)).k
 (tamP (3 : Int) (Int.toNat (4 : Int)) (ex k n v d)).n
 (tamP (3 : Int) (Int.toNat (4 : Int)) (ex k n v d)).v
 (dE (tamP (3 : Int) (Int.toNat (4 : Int)) (ex k n v d)).kids)).n
 (ex (tamP (3 : Int) (Int.toNat (4 : Int)) (ex k n v d)).k
 (tamP (3 : Int) (Int.toNat (4 : Int)) (ex k n v d)).n
 (tamP (3 : Int) (Int.toNat (4 : Int)) (ex k n v d)).v
 (dE (tamP (3 : Int) (Int.toNat (4 : Int)) (ex k n v d)).kids)).v
 (dE
 (ex (tamP (3 : Int) (Int.toNat (4 : Int)) (ex k n v d)).k
 (tamP (3 : Int) (Int.toNat (4 : Int)) (ex k n v d)).n
 (tamP (3 : Int) (Int.toNat (4 : Int)) (ex k n v d)).v
 (dE (tamP (3 : Int) (Int.toNat (4 : Int)) (ex k n v d)).kids)).kids))
 (ex
 (ex (tamP (3 : Int) (Int.toNat (4 : Int)) (ex k2 n2 v2 d2)).k
 (tamP (3 : Int) (Int.toNat (4 : Int)) (ex k2 n2 v2 d2)).n
 (tamP (3 : Int) (Int.toNat (4 : Int)) (ex k2 n2 v2 d2)).v
 (dE (tamP (3 : Int) (Int.toNat (4 : Int)) (ex k2 n2 v2 d2)).kids)).k
 (ex (tamP (3 : Int) (Int.toNat (4 : Int)) (ex k2 n2 v2 d2)).k
 (tamP (3 : Int) (Int.toNat (4 : Int)) (ex k2 n2 v2 d2)).n
 (tamP (3 : Int) (Int.toNat (4 : Int)) (ex k2 n2 v2 d2)).v
 (dE (tamP (3 : Int) (Int.toNat (4 : Int)) (ex k2 n2 v2 d2)).kids)).n
 (ex (tamP (3 : Int) (Int.toNat (4 : Int)) (ex k2 n2 v2 d2)).k
 (tamP (3 : Int) (Int.toNat (4 : Int)) (ex k2 n2 v2 d2)).n
 (tamP (3 : Int) (Int.toNat (4 : Int)) (ex k2 n2 v2 d2)).v
 (dE (tamP (3 : Int) (Int.toNat (4 : Int)) (ex k2 n2 v2 d2)).kids)).v
 (dE
 (ex (tamP (3 : Int) (Int.toNat (4 : Int)) (ex k2 n2 v2 d2)).k
 (tamP (3 : Int) (Int.toNat (4 : Int)) (ex k2 n2 v2 d2)).n
 (tamP (3 : Int) (Int.toNat (4 : Int)) (ex k2 n2 v2 d2)).v
 (dE (tamP (3 : Int) (Int.toNat (4 : Int)) (ex k2 n2 v2 d2)).kids)).kids))
 ((rowZ
 (↑(rowI (3 : Nat) (hz fun (j : Nat) => if c = true then b j else a j)).len :
 Int)
 (fun (j : Nat) =>
 vD (rowI (3 : Nat) (hz fun (j : Nat) => if c = true then b j else a j))
 (↑j : Int))
 (rowI (3 : Nat) (hz fun (j : Nat) => if c = true then b j else a j)).len).fst,
 (rowZ
 (↑(rowI (3 : Nat) (hz fun (j : Nat) => if c = true then b j else a j)).len :
 Int)
 (fun (j : Nat) =>
 vD (rowI (3 : Nat) (hz fun (j : Nat) => if c = true then b j else a j))
 (↑j : Int))
 (rowI (3 : Nat)
 (hz fun (j : Nat) => if c = true then b j else a j)).len).snd)).fst.snd) =
 true →
 false = true) ∧
 ((!(asmZ (↑(rowI (3 : Nat) (hz fun (j : Nat) => if c = true then b j else a j)).len : Int) i
 (ex
 (ex (tamP (3 : Int) (Int.toNat (4 : Int)) (ex k n v d)).k
 (tamP (3 : Int) (Int.toNat (4 : Int)) (ex k n v d)).n
 (tamP (3 : Int) (Int.toNat (4 : Int)) (ex k n v d)).v
 (dE (tamP (3 : Int) (Int.toNat (4 : Int)) (ex k n v d)).kids)).k
 (ex (tamP (3 : Int) (Int.toNat (4 : Int)) (ex k n v d)).k
 (tamP (3 : Int) (Int.toNat (4 : Int)) (ex k n v d)).n
 (tamP (3 : Int) (Int.toNat (4 : Int)) (ex k n v d)).v
 (dE (tamP (3 : Int) (Int.toNat (4 : Int)) (ex k n v d)).kids)).n
 (ex (tamP (3 : Int) (Int.toNat (4 : Int)) (ex k n v d)).k
 (tamP (3 : Int) (Int.toNat (4 : Int)) (ex k n v d)).n
 (tamP (3 : Int) (Int.toNat (4 : Int)) (ex k n v d)).v
 (dE (tamP (3 : Int) (Int.toNat (4 : Int)) (ex k n v d)).kids)).v
 (dE
 (ex (tamP (3 : Int) (Int.toNat (4 : Int)) (ex k n v d)).k
 (tamP (3 : Int) (Int.toNat (4 : Int)) (ex k n v d)).n
 (tamP (3 : Int) (Int.toNat (4 : Int)) (ex k n v d)).v
 (dE (tamP (3 : Int) (Int.toNat (4 : Int)) (ex k n v d)).kids)).kids))
 (ex
 (ex (tamP (3 : Int) (Int.toNat (4 : Int)) (ex k2 n2 v2 d2)).k
 (tamP (3 : Int) (Int.toNat (4 : Int)) (ex k2 n2 v2 d2)).n
 (tamP (3 : Int) (Int.toNat (4 : Int)) (ex k2 n2 v2 d2)).v
 (dE (tamP (3 : Int) (Int.toNat (4 : Int)) (ex k2 n2 v2 d2)).kids)).k
 (ex (tamP (3 : Int) (Int.toNat (4 : Int)) (ex k2 n2 v2 d2)).k
 (tamP (3 : Int) (Int.toNat (4 : Int)) (ex k2 n2 v2 d2)).n
 (tamP (3 : Int) (Int.toNat (4 : Int)) (ex k2 n2 v2 d2)).v
 (dE (tamP (3 : Int) (Int.toNat (4 : Int)) (ex k2 n2 v2 d2)).kids)).n
 (ex (tamP (3 : Int) (Int.toNat (4 : Int)) (ex k2 n2 v2 d2)).k
 (tamP (3 : Int) (Int.toNat (4 : Int)) (ex k2 n2 v2 d2)).n
 (tamP (3 : Int) (Int.toNat (4 : Int)) (ex k2 n2 v2 d2)).v
 (dE (tamP (3 : Int) (Int.toNat (4 : Int)) (ex k2 n2 v2 d2)).kids)).v
 (dE
 (ex (tamP (3 : Int) (Int.toNat (4 : Int)) (ex k2 n2 v2 d2)).k
 (tamP (3 : Int) (Int.toNat (4 : Int)) (ex k2 n2 v2 d2)).n
 (tamP (3 : Int) (Int.toNat (4 : Int)) (ex k2 n2 v2 d2)).v
 (dE (tamP (3 : Int) (Int.toNat (4 : Int)) (ex k2 n2 v2 d2)).kids)).kids))
 ((rowZ
 (↑(rowI (3 : Nat) (hz fun (j : Nat) => if c = true then b j else a j)).len :
 Int)
 (fun (j : Nat) =>
 vD (rowI (3 : Nat) (hz fun (j : Nat) => if c = true then b j else a j))
 (↑j : Int))
 (rowI (3 : Nat) (hz fun (j : Nat) => if c = true then b j else a j)).len).fst,
 (rowZ
 (↑(rowI (3 : Nat) (hz fun (j : Nat) => if c = true then b j else a j)).len :
 Int)
 (fun (j : Nat) =>
 vD (rowI (3 : Nat) (hz fun (j : Nat) => if c = true then b j else a j))
 (↑j : Int))
 (rowI (3 : Nat)
 (hz fun (j : Nat) => if c = true then b j else a j)).len).snd)).fst.fst &&
 !withinP (↑(rowI (3 : Nat) (hz fun (j : Nat) => if c = true then b j else a j)).len : Int)
 (rowZ (↑(rowI (3 : Nat) (hz fun (j : Nat) => if c = true then b j else a j)).len : Int)
 (fun (j : Nat) =>
 vD (rowI (3 : Nat) (hz fun (j : Nat) => if c = true then b j else a j)) (↑j : Int))
 (rowI (3 : Nat) (hz fun (j : Nat) => if c = true then b j else a j)).len).fst
 (rowZ (↑(rowI (3 : Nat) (hz fun (j : Nat) => if c = true then b j else a j)).len : Int)
 (fun (j : Nat) =>
 vD (rowI (3 : Nat) (hz fun (j : Nat) => if c = true then b j else a j)) (↑j : Int))
 (rowI (3 : Nat) (hz fun (j : Nat) => if c = true then b j else a j)).len).snd
 (↑(rowI (3 : Nat) (hz fun (j : Nat) => if c = true then b j else a j)).len : Int)
 (asmZ (↑(rowI (3 : Nat) (hz fun (j : Nat) => if c = true then b j else a j)).len : Int) i
 (ex
 (ex (tamP (3 : Int) (Int.toNat (4 : Int)) (ex k n v d)).k
 (tamP (3 : Int) (Int.toNat (4 : Int)) (ex k n v d)).n
 (tamP (3 : Int) (Int.toNat (4 : Int)) (ex k n v d)).v
 (dE (tamP (3 : Int) (Int.toNat (4 : Int)) (ex k n v d)).kids)).k
 (ex (tamP (3 : Int) (Int.toNat (4 : Int)) (ex k n v d)).k
 (tamP (3 : Int) (Int.toNat (4 : Int)) (ex k n v d)).n
 (tamP (3 : Int) (Int.toNat (4 : Int)) (ex k n v d)).v
 (dE (tamP (3 : Int) (Int.toNat (4 : Int)) (ex k n v d)).kids)).n
 (ex (tamP (3 : Int) (Int.toNat (4 : Int)) (ex k n v d)).k
 (tamP (3 : Int) (Int.toNat (4 : Int)) (ex k n v d)).n
 (tamP (3 : Int) (Int.toNat (4 : Int)) (ex k n v d)).v
 (dE (tamP (3 : Int) (Int.toNat (4 : Int)) (ex k n v d)).kids)).v
 (dE
 (ex (tamP (3 : Int) (Int.toNat (4 : Int)) (ex k n v d)).k
 (tamP (3 : Int) (Int.toNat (4 : Int)) (ex k n v d)).n
 (tamP (3 : Int) (Int.toNat (4 : Int)) (ex k n v d)).v
 (dE (tamP (3 : Int) (Int.toNat (4 : Int)) (ex k n v d)).kids)).kids))
 (ex
 (ex (tamP (3 : Int) (Int.toNat (4 : Int)) (ex k2 n2 v2 d2)).k
 (tamP (3 : Int) (Int.toNat (4 : Int)) (ex k2 n2 v2 d2)).n
 (tamP (3 : Int) (Int.toNat (4 : Int)) (ex k2 n2 v2 d2)).v
 (dE (tamP (3 : Int) (Int.toNat (4 : Int)) (ex k2 n2 v2 d2)).kids)).k
 (ex (tamP (3 : Int) (Int.toNat (4 : Int)) (ex k2 n2 v2 d2)).k
 (tamP (3 : Int) (Int.toNat (4 : Int)) (ex k2 n2 v2 d2)).n
 (tamP (3 : Int) (Int.toNat (4 : Int)) (ex k2 n2 v2 d2)).v
 (dE (tamP (3 : Int) (Int.toNat (4 : Int)) (ex k2 n2 v2 d2)).kids)).n
 (ex (tamP (3 : Int) (Int.toNat (4 : Int)) (ex k2 n2 v2 d2)).k
 (tamP (3 : Int) (Int.toNat (4 : Int)) (ex k2 n2 v2 d2)).n
 (tamP (3 : Int) (Int.toNat (4 : Int)) (ex k2 n2 v2 d2)).v
 (dE (tamP (3 : Int) (Int.toNat (4 : Int)) (ex k2 n2 v2 d2)).kids)).v
 (dE
 (ex (tamP (3 : Int) (Int.toNat (4 : Int)) (ex k2 n2 v2 d2)).k
 (tamP (3 : Int) (Int.toNat (4 : Int)) (ex k2 n2 v2 d2)).n
 (tamP (3 : Int) (Int.toNat (4 : Int)) (ex k2 n2 v2 d2)).v
 (dE (tamP (3 : Int) (Int.toNat (4 : Int)) (ex k2 n2 v2 d2)).kids)).kids))
 ((rowZ
 (↑(rowI (3 : Nat) (hz fun (j : Nat) => if c = true then b j else a j)).len :
 Int)
 (fun (j : Nat) =>
 vD (rowI (3 : Nat) (hz fun (j : Nat) => if c = true then b j else a j))
 (↑j : Int))
 (rowI (3 : Nat) (hz fun (j : Nat) => if c = true then b j else a j)).len).fst,
 (rowZ
 (↑(rowI (3 : Nat) (hz fun (j : Nat) => if c = true then b j else a j)).len :
 Int)
 (fun (j : Nat) =>
 vD (rowI (3 : Nat) (hz fun (j : Nat) => if c = true then b j else a j))
 (↑j : Int))
 (rowI (3 : Nat)
 (hz fun (j : Nat) => if c = true then b j else a j)).len).snd)).fst.fst
 (asmZ (↑(rowI (3 : Nat) (hz fun (j : Nat) => if c = true then b j else a j)).len : Int) i
 (ex
 (ex (tamP (3 : Int) (Int.toNat (4 : Int)) (ex k n v d)).k
 (tamP (3 : Int) (Int.toNat (4 : Int)) (ex k n v d)).n
 (tamP (3 : Int) (Int.toNat (4 : Int)) (ex k n v d)).v
 (dE (tamP (3 : Int) (Int.toNat (4 : Int)) (ex k n v d)).kids)).k
 (ex (tamP (3 : Int) (Int.toNat (4 : Int)) (ex k n v d)).k
 (tamP (3 : Int) (Int.toNat (4 : Int)) (ex k n v d)).n
 (tamP (3 : Int) (Int.toNat (4 : Int)) (ex k n v d)).v
 (dE (tamP (3 : Int) (Int.toNat (4 : Int)) (ex k n v d)).kids)).n
 (ex (tamP (3 : Int) (Int.toNat (4 : Int)) (ex k n v d)).k
 (tamP (3 : Int) (Int.toNat (4 : Int)) (ex k n v d)).n
 (tamP (3 : Int) (Int.toNat (4 : Int)) (ex k n v d)).v
 (dE (tamP (3 : Int) (Int.toNat (4 : Int)) (ex k n v d)).kids)).v
 (dE
 (ex (tamP (3 : Int) (Int.toNat (4 : Int)) (ex k n v d)).k
 (tamP (3 : Int) (Int.toNat (4 : Int)) (ex k n v d)).n
 (tamP (3 : Int) (Int.toNat (4 : Int)) (ex k n v d)).v
 (dE (tamP (3 : Int) (Int.toNat (4 : Int)) (ex k n v d)).kids)).kids))
 (ex
 (ex (tamP (3 : Int) (Int.toNat (4 : Int)) (ex k2 n2 v2 d2)).k
 (tamP (3 : Int) (Int.toNat (4 : Int)) (ex k2 n2 v2 d2)).n
 (tamP (3 : Int) (Int.toNat (4 : Int)) (ex k2 n2 v2 d2)).v
 (dE (tamP (3 : Int) (Int.toNat (4 : Int)) (ex k2 n2 v2 d2)).kids)).k
 (ex (tamP (3 : Int) (Int.toNat (4 : Int)) (ex k2 n2 v2 d2)).k
 (tamP (3 : Int) (Int.toNat (4 : Int)) (ex k2 n2 v2 d2)).n
 (tamP (3 : Int) (Int.toNat (4 : Int)) (ex k2 n2 v2 d2)).v
 (dE (tamP (3 : Int) (Int.toNat (4 : Int)) (ex k2 n2 v2 d2)).kids)).n
 (ex (tamP (3 : Int) (Int.toNat (4 : Int)) (ex k2 n2 v2 d2)).k
 (tamP (3 : Int) (Int.toNat (4 : Int)) (ex k2 n2 v2 d2)).n
 (tamP (3 : Int) (Int.toNat (4 : Int)) (ex k2 n2 v2 d2)).v
 (dE (tamP (3 : Int) (Int.toNat (4 : Int)) (ex k2 n2 v2 d2)).kids)).v
 (dE
 (ex (tamP (3 : Int) (Int.toNat (4 : Int)) (ex k2 n2 v2 d2)).k
 (tamP (3 : Int) (Int.toNat (4 : Int)) (ex k2 n2 v2 d2)).n
 (tamP (3 : Int) (Int.toNat (4 : Int)) (ex k2 n2 v2 d2)).v
 (dE (tamP (3 : Int) (Int.toNat (4 : Int)) (ex k2 n2 v2 d2)).kids)).kids))
 ((rowZ
 (↑(rowI (3 : Nat) (hz fun (j : Nat) => if c = true then b j else a j)).len :
 Int)
 (fun (j : Nat) =>
 vD (rowI (3 : Nat) (hz fun (j : Nat) => if c = true then b j else a j))
 (↑j : Int))
 (rowI (3 : Nat) (hz fun (j : Nat) => if c = true then b j else a j)).len).fst,
 (rowZ
 (↑(rowI (3 : Nat) (hz fun (j : Nat) => if c = true then b j else a j)).len :
 Int)
 (fun (j : Nat) =>
 vD (rowI (3 : Nat) (hz fun (j : Nat) => if c = true then b j else a j))
 (↑j : Int))
 (rowI (3 : Nat)
 (hz fun (j : Nat) => if c = true then b j else a j)).len).snd)).fst.snd) =
 false →
 ∃ (j : Int),
 ((1 : Int) ≤ j ∧ j ≤ (7 : Int)) ∧
 ((9 : Int) - j).toNat < ((9 : Int) - i).toNat ∧
 List.map (fun (j : Nat) => [D.i (hz (fun (j : Nat) => if c = true then b j else a j) j)])
 (List.range (3 : Nat)) =
 List.map
 (fun (j : Nat) => [D.i (hz (fun (j : Nat) => if c = true then b j else a j) j)])
 (List.range (3 : Nat)) ∧
 IntKind.i64.wrap (i + (1 : Int)) = j ∧
 (tamP (3 : Int) (Int.toNat (4 : Int)) (ex k n v d)).k =
 (tamP (3 : Int) (Int.toNat (4 : Int)) (ex k n v d)).k ∧
 (tamP (3 : Int) (Int.toNat (4 : Int)) (ex k n v d)).n =
 (tamP (3 : Int) (Int.toNat (4 : Int)) (ex k n v d)).n ∧
 (tamP (3 : Int) (Int.toNat (4 : Int)) (ex k n v d)).v =
 (tamP (3 : Int) (Int.toNat (4 : Int)) (ex k n v d)).v ∧
 List.map encE (tamP (3 : Int) (Int.toNat (4 : Int)) (ex k n v d)).kids =
 List.map encE (tamP (3 : Int) (Int.toNat (4 : Int)) (ex k n v d)).kids ∧
 (tamP (3 : Int) (Int.toNat (4 : Int)) (ex k2 n2 v2 d2)).k =
 (tamP (3 : Int) (Int.toNat (4 : Int)) (ex k2 n2 v2 d2)).k ∧
 (tamP (3 : Int) (Int.toNat (4 : Int)) (ex k2 n2 v2 d2)).n =
 (tamP (3 : Int) (Int.toNat (4 : Int)) (ex k2 n2 v2 d2)).n ∧
 (tamP (3 : Int) (Int.toNat (4 : Int)) (ex k2 n2 v2 d2)).v =
 (tamP (3 : Int) (Int.toNat (4 : Int)) (ex k2 n2 v2 d2)).v ∧
 List.map encE
 (tamP (3 : Int) (Int.toNat (4 : Int)) (ex k2 n2 v2 d2)).kids =
 List.map encE
 (tamP (3 : Int) (Int.toNat (4 : Int)) (ex k2 n2 v2 d2)).kids ∧
 (jnZ (3 : Int) (rowZ (3 : Int) a (3 : Nat))
 (rowZ (3 : Int) b (3 : Nat))).fst =
 (jnZ (3 : Int) (rowZ (3 : Int) a (3 : Nat))
 (rowZ (3 : Int) b (3 : Nat))).fst ∧
 List.map
 (fun (j : Nat) =>
 [D.i
 (itvLo (3 : Int)
 (jnZ (3 : Int) (rowZ (3 : Int) a (3 : Nat))
 (rowZ (3 : Int) b (3 : Nat))).fst
 (jnZ (3 : Int) (rowZ (3 : Int) a (3 : Nat))
 (rowZ (3 : Int) b (3 : Nat))).snd
 (↑j : Int)),
 D.i
 (itvHi (3 : Int)
 (jnZ (3 : Int) (rowZ (3 : Int) a (3 : Nat))
 (rowZ (3 : Int) b (3 : Nat))).fst
 (jnZ (3 : Int) (rowZ (3 : Int) a (3 : Nat))
 (rowZ (3 : Int) b (3 : Nat))).snd
 (↑j : Int))])
 (List.range (3 : Nat)) =
 List.map
 (fun (j : Nat) =>
 [D.i
 (itvLo (3 : Int)
 (jnZ (3 : Int) (rowZ (3 : Int) a (3 : Nat))
 (rowZ (3 : Int) b (3 : Nat))).fst
 (jnZ (3 : Int) (rowZ (3 : Int) a (3 : Nat))
 (rowZ (3 : Int) b (3 : Nat))).snd
 (↑j : Int)),
 D.i
 (itvHi (3 : Int)
 (jnZ (3 : Int) (rowZ (3 : Int) a (3 : Nat))
 (rowZ (3 : Int) b (3 : Nat))).fst
 (jnZ (3 : Int) (rowZ (3 : Int) a (3 : Nat))
 (rowZ (3 : Int) b (3 : Nat))).snd
 (↑j : Int))])
 (List.range (3 : Nat)) ∧
 (3 : Int) = (3 : Int) ∧
 (jnZ (3 : Int) (rowZ (3 : Int) a (3 : Nat))
 (rowZ (3 : Int) b (3 : Nat))).fst =
 (jnZ (3 : Int) (rowZ (3 : Int) a (3 : Nat))
 (rowZ (3 : Int) b (3 : Nat))).fst ∧
 ∀ (o : Nat),
 o < nat_lit 49 →
 (jnZ (3 : Int) (rowZ (3 : Int) a (3 : Nat))
 (rowZ (3 : Int) b (3 : Nat))).snd
 o =
 (jnZ (3 : Int) (rowZ (3 : Int) a (3 : Nat))
 (rowZ (3 : Int) b (3 : Nat))).snd
 o)))) ∧
 (decide (i < (7 : Int)) = false → true = true)) (by kernel_rfl) ?_
    intro hab
    simp only [ex_of]
    have tL := tam_tm (w := 3) (by omega) (Int.toNat 4) (ex k n v d)
    have tR := tam_tm (w := 3) (by omega) (Int.toNat 4) (ex k2 n2 v2 d2)
    have sL := tm_small tL
    have sR := tm_small tR
    generalize tamP 3 (Int.toNat 4) (ex k n v d) = L at *
    generalize tamP 3 (Int.toNat 4) (ex k2 n2 v2 d2) = Rr at *
    obtain ⟨gz, pz⟩ := two_rows hab c
    have hh : ∀ j, j < 3 → -2147483648 ≤ (if c = true then b j else a j) ∧ (if c = true then b j else a j) ≤ 2147483647 := fun j hj => by
      have := hab j hj
      split
      · exact this.2
      · exact this.1
    have hI : InV 3 (gI (hz fun j => if c = true then b j else a j)) := hz_in hh
    have sw := row_all (n := 3) (by omega) (g := hz fun j => if c = true then b j else a j) (fun i hi => by unfold hz; rw [if_pos (by omega)]; exact hh i (by omega))
    have hl : (rowI 3 (fun j => if c = true then b j else a j)).len = 3 := rfl
    have hl2 : (rowI 3 (hz fun j => if c = true then b j else a j)).len = 3 := rfl
    have e33 : Int.toNat 3 = 3 := rfl
    simp only [vD_row, hl, hl2, e33]
    generalize jnZ 3 (rowZ 3 a 3) (rowZ 3 b 3) = z at *
    refine ⟨by omega, by omega, by omega, by omega, hab, ⟨1, by omega, Nat.le_refl _, Nat.le_refl _, rfl, rfl, ?_⟩, fun i hi => ⟨fun q => ?_, fun _ => ?_⟩⟩
    · (repeat' apply And.intro) <;> first | trivial | exact fun _ _ => trivial
    · have q : i < 7 := by simpa using q
      have h16 : 1 ≤ i ∧ i ≤ 6 := by omega
      have ez : asmZ 3 i L Rr (z.1, z.2) = asmZ 3 i L Rr z := rfl
      generalize (hz fun j => if c = true then b j else a j) = h at *
      have e4 : rowZ ((3 : Nat) : Int) (fun j => gI h (j : Nat)) 3 = rowZ 3 h 3 := rfl
      have sw : Sg 3 (rowZ 3 h 3) (vz h) := sw
      simp only [e4]
      generalize rowZ 3 h 3 = w at *
      have ew : asmZ ((3 : Nat) : Int) i L Rr (w.1, w.2) = asmZ 3 i L Rr w := rfl
      simp only [ez, ew]
      have gA := good_asm (op := i) (L := L) (R := Rr) gz
      have gB := good_asm (op := i) (L := L) (R := Rr) sw.1
      have rA := itD_right gA
      have wA := within_pts gA (fun v hv => asm_sub gz (by omega) tL tR hv)
      have sA := asm_snd gz (by omega) tL tR hI pz (op := i)
      have aA := asm_in gz (by omega) tL tR hI pz h16
      have aB := asm_in sw.1 (by omega) tL tR hI sw.2.1 h16
      have lB := asm_alone sw.1 (by omega) tL tR hI sw h16
      generalize asmZ 3 i L Rr z = A at *
      generalize asmZ 3 i L Rr w = B at *
      generalize hldT i (evT (gI h) L) (evT (gI h) Rr) = H at *
      obtain ⟨ok, err⟩ := H
      dsimp only at *
      obtain ⟨l1, l2⟩ := lB
      have b1 : B.2.1 = decide (err = 2) := congrArg Prod.fst l2
      have b2 : B.2.2 = decide (err = 3) := congrArg Prod.snd l2
      have nwB : B.1.1 = false → withinP 3 w.1 w.2 3 B.1.1 B.1.2 = true := fun q => by
        rw [q] at l1
        have q1 : err = 0 ∧ ok = true := by simpa using l1.symm
        have pB := aB (by rw [q1.1, q1.2])
        exact within_pts sw.1 fun v hv => pt_congr (fun i hi => (sw.2.2 v hv i hi).symm) pB
      refine ⟨tL, tR, hI, sL, sR, numOK_of gz, by omega, gA.sm, by rw [itD_len]; omega, fun _ => by rw [itD_len]; omega, fun q => ?_, fun _ => ⟨by omega, numOK_of sw.1, by decide, fun q => ?_, fun _ => ⟨fun _ => by omega, fun q => ?_, fun _ => ⟨i + 1, by omega, by omega, trivial, wr _ (by omega), ?_⟩⟩⟩⟩
      · exfalso
        rw [show nrightP A.1.1 (itD 3 3 A.1) 3 A.1.1 A.1.2 = true from rA, wA] at q
        simp only [Bool.not_true, Bool.false_or, Bool.or_eq_true, Bool.and_eq_true, beq_iff_eq, Bool.not_eq_true'] at q
        rcases q with (⟨q1, q2⟩ | ⟨q1, q2⟩) | ⟨⟨q1, q2⟩, q3⟩
        · rw [sA.1 q1] at q2; cases q2
        · rw [sA.2 q1] at q2; cases q2
        · have pA := aA (by rw [q1, q2])
          have nh := nhas_pt gA pA (v := rowI 3 h) rfl
          rw [show nhasP A.1.1 (itD 3 3 A.1) 3 A.1.1 A.1.2 (rowI 3 h) = true from nh] at q3
          cases q3
      · exfalso
        have c1 : (decide (err = 2)) = (err == 2) := by by_cases h : err = 2 <;> simp [h]
        have c2 : (decide (err = 3)) = (err == 3) := by by_cases h : err = 3 <;> simp [h]
        have c3 : (decide (err ≠ 0)) = (err != 0) := by by_cases h : err = 0 <;> simp [h]
        rw [b1, b2, l1, c1, c2, c3] at q
        simp at q
      · exfalso
        simp only [Bool.and_eq_true, Bool.not_eq_true'] at q
        have := nwB q.1
        rw [show withinP ((3 : Nat) : Int) w.1 w.2 ((3 : Nat) : Int) B.1.1 B.1.2 = true from this] at q
        cases q.2
      · (repeat' apply And.intro) <;> first | trivial | exact fun _ _ => trivial
    · trivial
  · trivial
end Go.Proofs.Ytbcbcambkjhhhaa.Sx.Z
