/-
  EvalHas' contract.
-/
import Derived.Test.YtbcbcambkjhhhaaProg
import Derived.Test.YtbcbcambkjhhhaaChecked
import Derived.Laws.Bits64
import Derived.ChangeArms
import Derived.OpenShut
import Derived.WideShapes
import Derived.ChangeShapes
import Derived.Carry
import Derived.DataReads
import Derived.KernelRfl
import Derived.Deep.LoopGhost
import Derived.Laws.Append
import Derived.Laws.AppendOwn
import Derived.Laws.MakeOwn
import Derived.Laws.StructEq
import Derived.Laws.Cells
import Derived.Laws.CopyRow
import Derived.Laws.Rows
import Derived.Below
import Derived.Orders
import Derived.ChangeKeysEq
import Derived.IntWalk
import Derived.Deep.CutRange
import Derived.WalkKit
import Derived.ProofKit
import Derived.Handy
import Derived.Lib.Hide
import Derived.Deep.WholeRow
import Derived.Deep.Cut
import Derived.Deep.RegionHeld3
import Derived.RegionTactic
import Derived.Test.YtbcbcambkjhhhaaMA
import Derived.Test.YtbcbcambkjhhhaaMB
import Derived.Test.YtbcbcambkjhhhaaMC
import Derived.Test.YtbcbcambkjhhhaaMD
import Derived.Test.YtbcbcambkjhhhaaME
import Derived.Test.YtbcbcambkjhhhaaMF
import Derived.Test.YtbcbcambkjhhhaaMG
import Derived.Test.YtbcbcambkjhhhaaMH
import Derived.Test.YtbcbcambkjhhhaaMI
import Derived.Test.YtbcbcambkjhhhaaMJ
import Derived.Test.YtbcbcambkjhhhaaMK
import Derived.Test.YtbcbcambkjhhhaaML
import Derived.Test.YtbcbcambkjhhhaaMM
import Derived.Test.YtbcbcambkjhhhaaMj1
import Derived.Test.YtbcbcambkjhhhaaMN
import Derived.Test.YtbcbcambkjhhhaaMO
import Derived.Test.YtbcbcambkjhhhaaMP
import Derived.Test.YtbcbcambkjhhhaaMQ
import Derived.Test.YtbcbcambkjhhhaaMV
import Derived.Test.YtbcbcambkjhhhaaMW
import Derived.Test.YtbcbcambkjhhhaaMX
import Derived.Test.YtbcbcambkjhhhaaMY
import Derived.Test.YtbcbcambkjhhhaaMZ
import Derived.Test.YtbcbcambkjhhhaaMa1
import Derived.Test.YtbcbcambkjhhhaaMb1
import Derived.Test.YtbcbcambkjhhhaaMc1
import Derived.Test.YtbcbcambkjhhhaaMd1
namespace Go.Proofs.Ytbcbcambkjhhhaa.Sx.Z
open Go.RowKit
theorem row_hz (H : Nat → Int) : (rowI 3 H).sub 0 (0 + 3) = rowI 3 (hz H) := rfl
theorem sg_jn {n : Int} {a b : Zs} {p : Nat → Int} (ha : Sg n a p) (hb : Sg n b p) : Sg n (jnZ n a b) p := by
  have hR := R_le n
  obtain ⟨j1, j2⟩ := jn_both (n := n) hb.2.1.1 ha.2.1.1
  refine sg_of (good_jn ha.1 hb.1) ⟨j1, ha.2.1.2.1, fun i j hi hj => ?_⟩ fun v hv i hi => ?_
  · rw [j2 i j hi hj]
    have := ha.2.1.2.2 i j hi hj
    omega
  · have t1 := hv.2.2 i 0 hi (by omega)
    have t2 := hv.2.2 0 i (by omega) hi
    rw [j2 i 0 hi (by omega)] at t1
    rw [j2 0 i (by omega) hi] at t2
    have a1 := sg_ent ha hi (show 0 < R n by omega)
    have a2 := sg_ent ha (show 0 < R n by omega) hi
    have b1 := sg_ent hb hi (show 0 < R n by omega)
    have b2 := sg_ent hb (show 0 < R n by omega) hi
    omega
theorem modU3 (x : Int) : 0 ≤ IntKind.i64.wrap ((IntKind.u64.wrap x).tmod 3) ∧ IntKind.i64.wrap ((IntKind.u64.wrap x).tmod 3) < 3 := by
  have h := modU_in (a := x) (b := 3) (by omega)
  have e : IntKind.u64.wrap 3 = 3 := by decide
  unfold modU at h
  rwa [e] at h
noncomputable def ehasS : FSpec := fun ds _ => match ds with
  | [.i _k, .i _n, .i _v, .d _d, .f a, .f b, .b _c, .i _x] => some { val := .one (.sc (.bool (.sym (true)))), vc := [∀ j, j < 3 → (-2147483648 ≤ a j ∧ a j ≤ 2147483647) ∧ (-2147483648 ≤ b j ∧ b j ≤ 2147483647)] }
  | _ => none
noncomputable def ehasC : Con := con [rxpA, .agg [.ints .i32 3, .ints .i32 3, .c .bool], iA] ehasS
theorem ehas_ok : ConOK Try.prog 7 ehasC := by
  refine fn_ob tt_ok mixed Try.func7 rfl (fun _ _ => by kernel_rfl) (A := fun ds => ⟨fun _ => Cons.of [(36, tameC), (40, nrowsC), (16, revC), (15, copyXC), (41, evalC), (42, assignC), (39, reckonsC), (43, nhasC), (44, nrightC), (45, ihasC)], fun _ => none, fun _ => none⟩) (fun _ _ => (cons_cons tame_ok (cons_cons nrows_ok (cons_cons rev_ok (cons_cons copyX_ok (cons_cons eval_ok (cons_cons assign_ok (cons_cons reckons_ok (cons_cons nhas_ok (cons_cons nright_ok (cons_cons ihas_ok cons_nil))))))))))) (by kernel_rfl) ?_
  intro ds fr
  unfold ehasS
  split
  · rename_i k n v d a b c x
    refine kmp (q := (∀ (j : Nat), j < (3 : Nat) → ((-2147483648 : Int) ≤ a j ∧ a j ≤ (2147483647 : Int)) ∧ (-2147483648 : Int) ≤ b j ∧ b j ≤ (2147483647 : Int)) →
 ((0 : Int) ≤ (6 : Int) ∧ (6 : Int) ≤ (100 : Int)) ∧
 ((1 : Int) ≤ (3 : Int) ∧ (3 : Int) ≤ (6 : Int)) ∧
 (∀ (j : Nat), j < (3 : Nat) → ((-2147483648 : Int) ≤ a j ∧ a j ≤ (2147483647 : Int)) ∧ (-2147483648 : Int) ≤ b j ∧ b j ≤ (2147483647 : Int)) ∧
 nat_lit 0 + nat_lit 3 ≤ (rowI (3 : Nat) fun (j : Nat) => if c = true then b j else a j).len ∧
 Tm (↑((rowI (3 : Nat) fun (j : Nat) => if c = true then b j else a j).sub (nat_lit 0) (nat_lit 0 + nat_lit 3)).len : Int)
 (ex (tamP (3 : Int) (Int.toNat (6 : Int)) (ex k n v d)).k (tamP (3 : Int) (Int.toNat (6 : Int)) (ex k n v d)).n
 (tamP (3 : Int) (Int.toNat (6 : Int)) (ex k n v d)).v (dE (tamP (3 : Int) (Int.toNat (6 : Int)) (ex k n v d)).kids)) ∧
 InV (↑((rowI (3 : Nat) fun (j : Nat) => if c = true then b j else a j).sub (nat_lit 0) (nat_lit 0 + nat_lit 3)).len : Int)
 (vD ((rowI (3 : Nat) fun (j : Nat) => if c = true then b j else a j).sub (nat_lit 0) (nat_lit 0 + nat_lit 3))) ∧
 Small
 (ex (tamP (3 : Int) (Int.toNat (6 : Int)) (ex k n v d)).k (tamP (3 : Int) (Int.toNat (6 : Int)) (ex k n v d)).n
 (tamP (3 : Int) (Int.toNat (6 : Int)) (ex k n v d)).v (dE (tamP (3 : Int) (Int.toNat (6 : Int)) (ex k n v d)).kids)) ∧
 NumOK (3 : Int) (jnZ (3 : Int) (rowZ (3 : Int) a (3 : Nat)) (rowZ (3 : Int) b (3 : Nat))).fst
 (itD (3 : Nat) (3 : Int) (jnZ (3 : Int) (rowZ (3 : Int) a (3 : Nat)) (rowZ (3 : Int) b (3 : Nat))))
 (jnZ (3 : Int) (rowZ (3 : Int) a (3 : Nat)) (rowZ (3 : Int) b (3 : Nat))).fst
 (jnZ (3 : Int) (rowZ (3 : Int) a (3 : Nat)) (rowZ (3 : Int) b (3 : Nat))).snd ∧
 Small
 (ex (tamP (3 : Int) (Int.toNat (6 : Int)) (ex k n v d)).k (tamP (3 : Int) (Int.toNat (6 : Int)) (ex k n v d)).n
 (tamP (3 : Int) (Int.toNat (6 : Int)) (ex k n v d)).v (dE (tamP (3 : Int) (Int.toNat (6 : Int)) (ex k n v d)).kids)) ∧
 NumOK (3 : Int) (jnZ (3 : Int) (rowZ (3 : Int) a (3 : Nat)) (rowZ (3 : Int) b (3 : Nat))).fst
 (itD (3 : Nat) (3 : Int) (jnZ (3 : Int) (rowZ (3 : Int) a (3 : Nat)) (rowZ (3 : Int) b (3 : Nat))))
 (jnZ (3 : Int) (rowZ (3 : Int) a (3 : Nat)) (rowZ (3 : Int) b (3 : Nat))).fst
 (jnZ (3 : Int) (rowZ (3 : Int) a (3 : Nat)) (rowZ (3 : Int) b (3 : Nat))).snd ∧
 ((!true) = false ∧ True → nat_lit 0 + nat_lit 3 ≤ (rowI (3 : Nat) fun (j : Nat) => if c = true then b j else a j).len) ∧
 ((!true) = false ∧ True →
 (itD (3 : Nat) (3 : Int) (jnZ (3 : Int) (rowZ (3 : Int) a (3 : Nat)) (rowZ (3 : Int) b (3 : Nat)))).len ≤ (1000 : Nat)) ∧
 ((!true ||
 !nhasP (jnZ (3 : Int) (rowZ (3 : Int) a (3 : Nat)) (rowZ (3 : Int) b (3 : Nat))).fst
 (itD (3 : Nat) (3 : Int) (jnZ (3 : Int) (rowZ (3 : Int) a (3 : Nat)) (rowZ (3 : Int) b (3 : Nat)))) (3 : Int)
 (jnZ (3 : Int) (rowZ (3 : Int) a (3 : Nat)) (rowZ (3 : Int) b (3 : Nat))).fst
 (jnZ (3 : Int) (rowZ (3 : Int) a (3 : Nat)) (rowZ (3 : Int) b (3 : Nat))).snd
 ((rowI (3 : Nat) fun (j : Nat) => if c = true then b j else a j).sub (nat_lit 0) (nat_lit 0 + nat_lit 3)) ||
 !((evaP (Int.toNat (3 : Int)) (3 : Int)
 ((jnZ (3 : Int) (rowZ (3 : Int) a (3 : Nat)) (rowZ (3 : Int) b (3 : Nat))).fst,
 (jnZ (3 : Int) (rowZ (3 : Int) a (3 : Nat)) (rowZ (3 : Int) b (3 : Nat))).snd)
 (ex
 (ex (tamP (3 : Int) (Int.toNat (6 : Int)) (ex k n v d)).k
 (tamP (3 : Int) (Int.toNat (6 : Int)) (ex k n v d)).n
 (tamP (3 : Int) (Int.toNat (6 : Int)) (ex k n v d)).v
 (dE (tamP (3 : Int) (Int.toNat (6 : Int)) (ex k n v d)).kids)).k
 (ex (tamP (3 : Int) (Int.toNat (6 : Int)) (ex k n v d)).k
 (tamP (3 : Int) (Int.toNat (6 : Int)) (ex k n v d)).n
 (tamP (3 : Int) (Int.toNat (6 : Int)) (ex k n v d)).v
 (dE (tamP (3 : Int) (Int.toNat (6 : Int)) (ex k n v d)).kids)).n
 (ex (tamP (3 : Int) (Int.toNat (6 : Int)) (ex k n v d)).k
 (tamP (3 : Int) (Int.toNat (6 : Int)) (ex k n v d)).n
 (tamP (3 : Int) (Int.toNat (6 : Int)) (ex k n v d)).v
 (dE (tamP (3 : Int) (Int.toNat (6 : Int)) (ex k n v d)).kids)).v
 (dE
 (ex (tamP (3 : Int) (Int.toNat (6 : Int)) (ex k n v d)).k
 (tamP (3 : Int) (Int.toNat (6 : Int)) (ex k n v d)).n
 (tamP (3 : Int) (Int.toNat (6 : Int)) (ex k n v d)).v
 (dE (tamP (3 : Int) (Int.toNat (6 : Int)) (ex k n v d)).kids)).kids))).snd.fst ==
 (evaP (Int.toNat (3 : Int)) (3 : Int)
 ((jnZ (3 : Int) (rowZ (3 : Int) a (3 : Nat)) (rowZ (3 : Int) b (3 : Nat))).fst,
 (jnZ (3 : Int) (rowZ (3 : Int) a (3 : Nat)) (rowZ (3 : Int) b (3 : Nat))).snd)
 (ex
 (ex (tamP (3 : Int) (Int.toNat (6 : Int)) (ex k n v d)).k
 (tamP (3 : Int) (Int.toNat (6 : Int)) (ex k n v d)).n
 (tamP (3 : Int) (Int.toNat (6 : Int)) (ex k n v d)).v
 (dE (tamP (3 : Int) (Int.toNat (6 : Int)) (ex k n v d)).kids)).k
 (ex (tamP (3 : Int) (Int.toNat (6 : Int)) (ex k n v d)).k
 (tamP (3 : Int) (Int.toNat (6 : Int)) (ex k n v d)).n
 (tamP (3 : Int) (Int.toNat (6 : Int)) (ex k n v d)).v
 (dE (tamP (3 : Int) (Int.toNat (6 : Int)) (ex k n v d)).kids)).n
 (ex (tamP (3 : Int) (Int.toNat (6 : Int)) (ex k n v d)).k
 (tamP (3 : Int) (Int.toNat (6 : Int)) (ex k n v d)).n
 (tamP (3 : Int) (Int.toNat (6 : Int)) (ex k n v d)).v
 (dE (tamP (3 : Int) (Int.toNat (6 : Int)) (ex k n v d)).kids)).v
 (dE
 (ex (tamP (3 : Int) (Int.toNat (6 : Int)) (ex k n v d)).k
 (tamP (3 : Int) (Int.toNat (6 : Int)) (ex k n v d)).n
 (tamP (3 : Int) (Int.toNat (6 : Int)) (ex k n v d)).v
 (dE (tamP (3 : Int) (Int.toNat (6 : Int)) (ex k n v d)).kids)).kids))).snd.fst &&
 ((evaP (Int.toNat (3 : Int)) (3 : Int)
 ((jnZ (3 : Int) (rowZ (3 : Int) a (3 : Nat)) (rowZ (3 : Int) b (3 : Nat))).fst,
 (jnZ (3 : Int) (rowZ (3 : Int) a (3 : Nat)) (rowZ (3 : Int) b (3 : Nat))).snd)
 (ex
 (ex (tamP (3 : Int) (Int.toNat (6 : Int)) (ex k n v d)).k
 (tamP (3 : Int) (Int.toNat (6 : Int)) (ex k n v d)).n
 (tamP (3 : Int) (Int.toNat (6 : Int)) (ex k n v d)).v
 (dE (tamP (3 : Int) (Int.toNat (6 : Int)) (ex k n v d)).kids)).k
 (ex (tamP (3 : Int) (Int.toNat (6 : Int)) (ex k n v d)).k
 (tamP (3 : Int) (Int.toNat (6 : Int)) (ex k n v d)).n
 (tamP (3 : Int) (Int.toNat (6 : Int)) (ex k n v d)).v
 (dE (tamP (3 : Int) (Int.toNat (6 : Int)) (ex k n v d)).kids)).n
 (ex (tamP (3 : Int) (Int.toNat (6 : Int)) (ex k n v d)).k
 (tamP (3 : Int) (Int.toNat (6 : Int)) (ex k n v d)).n
 (tamP (3 : Int) (Int.toNat (6 : Int)) (ex k n v d)).v
 (dE (tamP (3 : Int) (Int.toNat (6 : Int)) (ex k n v d)).kids)).v
 (dE
 (ex (tamP (3 : Int) (Int.toNat (6 : Int)) (ex k n v d)).k
 (tamP (3 : Int) (Int.toNat (6 : Int)) (ex k n v d)).n
 (tamP (3 : Int) (Int.toNat (6 : Int)) (ex k n v d)).v
 (dE (tamP (3 : Int) (Int.toNat (6 : Int)) (ex k n v d)).kids)).kids))).snd.snd ==
 (evaP (Int.toNat (3 : Int)) (3 : Int)
 ((jnZ (3 : Int) (rowZ (3 : Int) a (3 : Nat)) (rowZ (3 : Int) b (3 : Nat))).fst,
 (jnZ (3 : Int) (rowZ (3 : Int) a (3 : Nat)) (rowZ (3 : Int) b (3 : Nat))).snd)
 (ex
 (ex (tamP (3 : Int) (Int.toNat (6 : Int)) (ex k n v d)).k
 (tamP (3 : Int) (Int.toNat (6 : Int)) (ex k n v d)).n
 (tamP (3 : Int) (Int.toNat (6 : Int)) (ex k n v d)).v
 (dE (tamP (3 : Int) (Int.toNat (6 : Int)) (ex k n v d)).kids)).k
 (ex (tamP (3 : Int) (Int.toNat (6 : Int)) (ex k n v d)).k
 (tamP (3 : Int) (Int.toNat (6 : Int)) (ex k n v d)).n
 (tamP (3 : Int) (Int.toNat (6 : Int)) (ex k n v d)).v
 (dE (tamP (3 : Int) (Int.toNat (6 : Int)) (ex k n v d)).kids)).n
 (ex (tamP (3 : Int) (Int.toNat (6 : Int)) (ex k n v d)).k
 (tamP (3 : Int) (Int.toNat (6 : Int)) (ex k n v d)).n
 (tamP (3 : Int) (Int.toNat (6 : Int)) (ex k n v d)).v
 (dE (tamP (3 : Int) (Int.toNat (6 : Int)) (ex k n v d)).kids)).v
 (dE
 (ex (tamP (3 : Int) (Int.toNat (6 : Int)) (ex k n v d)).k
 (tamP (3 : Int) (Int.toNat (6 : Int)) (ex k n v d)).n
 (tamP (3 : Int) (Int.toNat (6 : Int)) (ex k n v d)).v
 (dE (tamP (3 : Int) (Int.toNat (6 : Int)) (ex k n v d)).kids)).kids))).snd.snd &&
 true))) =
 false ∧
 True →
 Sm
 (asgZ (3 : Int) (IntKind.i64.wrap ((IntKind.u64.wrap x).tmod (3 : Int)))
 (ex
 (ex (tamP (3 : Int) (Int.toNat (6 : Int)) (ex k n v d)).k (tamP (3 : Int) (Int.toNat (6 : Int)) (ex k n v d)).n
 (tamP (3 : Int) (Int.toNat (6 : Int)) (ex k n v d)).v (dE (tamP (3 : Int) (Int.toNat (6 : Int)) (ex k n v d)).kids)).k
 (ex (tamP (3 : Int) (Int.toNat (6 : Int)) (ex k n v d)).k (tamP (3 : Int) (Int.toNat (6 : Int)) (ex k n v d)).n
 (tamP (3 : Int) (Int.toNat (6 : Int)) (ex k n v d)).v (dE (tamP (3 : Int) (Int.toNat (6 : Int)) (ex k n v d)).kids)).n
 (ex (tamP (3 : Int) (Int.toNat (6 : Int)) (ex k n v d)).k (tamP (3 : Int) (Int.toNat (6 : Int)) (ex k n v d)).n
 (tamP (3 : Int) (Int.toNat (6 : Int)) (ex k n v d)).v (dE (tamP (3 : Int) (Int.toNat (6 : Int)) (ex k n v d)).kids)).v
 (dE
 (ex (tamP (3 : Int) (Int.toNat (6 : Int)) (ex k n v d)).k (tamP (3 : Int) (Int.toNat (6 : Int)) (ex k n v d)).n
 (tamP (3 : Int) (Int.toNat (6 : Int)) (ex k n v d)).v
 (dE (tamP (3 : Int) (Int.toNat (6 : Int)) (ex k n v d)).kids)).kids))
 ((jnZ (3 : Int) (rowZ (3 : Int) a (3 : Nat)) (rowZ (3 : Int) b (3 : Nat))).fst,
 (jnZ (3 : Int) (rowZ (3 : Int) a (3 : Nat)) (rowZ (3 : Int) b (3 : Nat))).snd)).snd) ∧
 ((!true ||
 !nhasP (jnZ (3 : Int) (rowZ (3 : Int) a (3 : Nat)) (rowZ (3 : Int) b (3 : Nat))).fst
 (itD (3 : Nat) (3 : Int) (jnZ (3 : Int) (rowZ (3 : Int) a (3 : Nat)) (rowZ (3 : Int) b (3 : Nat)))) (3 : Int)
 (jnZ (3 : Int) (rowZ (3 : Int) a (3 : Nat)) (rowZ (3 : Int) b (3 : Nat))).fst
 (jnZ (3 : Int) (rowZ (3 : Int) a (3 : Nat)) (rowZ (3 : Int) b (3 : Nat))).snd
 ((rowI (3 : Nat) fun (j : Nat) => if c = true then b j else a j).sub (nat_lit 0) (nat_lit 0 + nat_lit 3)) ||
 !((evaP (Int.toNat (3 : Int)) (3 : Int)
 ((jnZ (3 : Int) (rowZ (3 : Int) a (3 : Nat)) (rowZ (3 : Int) b (3 : Nat))).fst,
 (jnZ (3 : Int) (rowZ (3 : Int) a (3 : Nat)) (rowZ (3 : Int) b (3 : Nat))).snd)
 (ex
 (ex (tamP (3 : Int) (Int.toNat (6 : Int)) (ex k n v d)).k
 (tamP (3 : Int) (Int.toNat (6 : Int)) (ex k n v d)).n
 (tamP (3 : Int) (Int.toNat (6 : Int)) (ex k n v d)).v
 (dE (tamP (3 : Int) (Int.toNat (6 : Int)) (ex k n v d)).kids)).k
 (ex (tamP (3 : Int) (Int.toNat (6 : Int)) (ex k n v d)).k
 (tamP (3 : Int) (Int.toNat (6 : Int)) (ex k n v d)).n
 (tamP (3 : Int) (Int.toNat (6 : Int)) (ex k n v d)).v
 (dE (tamP (3 : Int) (Int.toNat (6 : Int)) (ex k n v d)).kids)).n
 (ex (tamP (3 : Int) (Int.toNat (6 : Int)) (ex k n v d)).k
 (tamP (3 : Int) (Int.toNat (6 : Int)) (ex k n v d)).n
 (tamP (3 : Int) (Int.toNat (6 : Int)) (ex k n v d)).v
 (dE (tamP (3 : Int) (Int.toNat (6 : Int)) (ex k n v d)).kids)).v
 (dE
 (ex (tamP (3 : Int) (Int.toNat (6 : Int)) (ex k n v d)).k
 (tamP (3 : Int) (Int.toNat (6 : Int)) (ex k n v d)).n
 (tamP (3 : Int) (Int.toNat (6 : Int)) (ex k n v d)).v
 (dE (tamP (3 : Int) (Int.toNat (6 : Int)) (ex k n v d)).kids)).kids))).snd.fst ==
 (evaP (Int.toNat (3 : Int)) (3 : Int)
 ((jnZ (3 : Int) (rowZ (3 : Int) a (3 : Nat)) (rowZ (3 : Int) b (3 : Nat))).fst,
 (jnZ (3 : Int) (rowZ (3 : Int) a (3 : Nat)) (rowZ (3 : Int) b (3 : Nat))).snd)
 (ex
 (ex (tamP (3 : Int) (Int.toNat (6 : Int)) (ex k n v d)).k
 (tamP (3 : Int) (Int.toNat (6 : Int)) (ex k n v d)).n
 (tamP (3 : Int) (Int.toNat (6 : Int)) (ex k n v d)).v
 (dE (tamP (3 : Int) (Int.toNat (6 : Int)) (ex k n v d)).kids)).k
 (ex (tamP (3 : Int) (Int.toNat (6 : Int)) (ex k n v d)).k
 (tamP (3 : Int) (Int.toNat (6 : Int)) (ex k n v d)).n
 (tamP (3 : Int) (Int.toNat (6 : Int)) (ex k n v d)).v
 (dE (tamP (3 : Int) (Int.toNat (6 : Int)) (ex k n v d)).kids)).n
 (ex (tamP (3 : Int) (Int.toNat (6 : Int)) (ex k n v d)).k
 (tamP (3 : Int) (Int.toNat (6 : Int)) (ex k n v d)).n
 (tamP (3 : Int) (Int.toNat (6 : Int)) (ex k n v d)).v
 (dE (tamP (3 : Int) (Int.toNat (6 : Int)) (ex k n v d)).kids)).v
 (dE
 (ex (tamP (3 : Int) (Int.toNat (6 : Int)) (ex k n v d)).k
 (tamP (3 : Int) (Int.toNat (6 : Int)) (ex k n v d)).n
 (tamP (3 : Int) (Int.toNat (6 : Int)) (ex k n v d)).v
 (dE (tamP (3 : Int) (Int.toNat (6 : Int)) (ex k n v d)).kids)).kids))).snd.fst &&
 ((evaP (Int.toNat (3 : Int)) (3 : Int)
 ((jnZ (3 : Int) (rowZ (3 : Int) a (3 : Nat)) (rowZ (3 : Int) b (3 : Nat))).fst,
 (jnZ (3 : Int) (rowZ (3 : Int) a (3 : Nat)) (rowZ (3 : Int) b (3 : Nat))).snd)
 (ex
 (ex (tamP (3 : Int) (Int.toNat (6 : Int)) (ex k n v d)).k
 (tamP (3 : Int) (Int.toNat (6 : Int)) (ex k n v d)).n
 (tamP (3 : Int) (Int.toNat (6 : Int)) (ex k n v d)).v
 (dE (tamP (3 : Int) (Int.toNat (6 : Int)) (ex k n v d)).kids)).k
 (ex (tamP (3 : Int) (Int.toNat (6 : Int)) (ex k n v d)).k
 (tamP (3 : Int) (Int.toNat (6 : Int)) (ex k n v d)).n
 (tamP (3 : Int) (Int.toNat (6 : Int)) (ex k n v d)).v
 (dE (tamP (3 : Int) (Int.toNat (6 : Int)) (ex k n v d)).kids)).n
 (ex (tamP (3 : Int) (Int.toNat (6 : Int)) (ex k n v d)).k
 (tamP (3 : Int) (Int.toNat (6 : Int)) (ex k n v d)).n
 (tamP (3 : Int) (Int.toNat (6 : Int)) (ex k n v d)).v
 (dE (tamP (3 : Int) (Int.toNat (6 : Int)) (ex k n v d)).kids)).v
 (dE
 (ex (tamP (3 : Int) (Int.toNat (6 : Int)) (ex k n v d)).k
 (tamP (3 : Int) (Int.toNat (6 : Int)) (ex k n v d)).n
 (tamP (3 : Int) (Int.toNat (6 : Int)) (ex k n v d)).v
 (dE (tamP (3 : Int) (Int.toNat (6 : Int)) (ex k n v d)).kids)).kids))).snd.snd ==
 (evaP (Int.toNat (3 : Int)) (3 : Int)
 ((jnZ (3 : Int) (rowZ (3 : Int) a (3 : Nat)) (rowZ (3 : Int) b (3 : Nat))).fst,
 (jnZ (3 : Int) (rowZ (3 : Int) a (3 : Nat)) (rowZ (3 : Int) b (3 : Nat))).snd)
 (ex
 (ex (tamP (3 : Int) (Int.toNat (6 : Int)) (ex k n v d)).k
 (tamP (3 : Int) (Int.toNat (6 : Int)) (ex k n v d)).n
 (tamP (3 : Int) (Int.toNat (6 : Int)) (ex k n v d)).v
 (dE (tamP (3 : Int) (Int.toNat (6 : Int)) (ex k n v d)).kids)).k
 (ex (tamP (3 : Int) (Int.toNat (6 : Int)) (ex k n v d)).k
 (tamP (3 : Int) (Int.toNat (6 : Int)) (ex k n v d)).n
 (tamP (3 : Int) (Int.toNat (6 : Int)) (ex k n v d)).v
 (dE (tamP (3 : Int) (Int.toNat (6 : Int)) (ex k n v d)).kids)).n
 (ex (tamP (3 : Int) (Int.toNat (6 : Int)) (ex k n v d)).k
 (tamP (3 : Int) (Int.toNat (6 : Int)) (ex k n v d)).n
 (tamP (3 : Int) (Int.toNat (6 : Int)) (ex k n v d)).v
 (dE (tamP (3 : Int) (Int.toNat (6 : Int)) (ex k n v d)).kids)).v
 (dE
 (ex (tamP (3 : Int) (Int.toNat (6 : Int)) (ex k n v d)).k
 (tamP (3 : Int) (Int.toNat (6 : Int)) (ex k n v d)).n
 (tamP (3 : Int) (Int.toNat (6 : Int)) (ex k n v d)).v
 (dE (tamP (3 : Int) (Int.toNat (6 : Int)) (ex k n v d)).kids)).kids))).snd.snd &&
 true))) =
 false ∧
 True →
 (itD (Int.toNat (3 : Int)) (3 : Int)
 (asgZ (3 : Int) (IntKind.i64.wrap ((IntKind.u64.wrap x).tmod (3 : Int)))
 (ex
 (ex (tamP (3 : Int) (Int.toNat (6 : Int)) (ex k n v d)).k (tamP (3 : Int) (Int.toNat (6 : Int)) (ex k n v d)).n
 (tamP (3 : Int) (Int.toNat (6 : Int)) (ex k n v d)).v
 (dE (tamP (3 : Int) (Int.toNat (6 : Int)) (ex k n v d)).kids)).k
 (ex (tamP (3 : Int) (Int.toNat (6 : Int)) (ex k n v d)).k (tamP (3 : Int) (Int.toNat (6 : Int)) (ex k n v d)).n
 (tamP (3 : Int) (Int.toNat (6 : Int)) (ex k n v d)).v
 (dE (tamP (3 : Int) (Int.toNat (6 : Int)) (ex k n v d)).kids)).n
 (ex (tamP (3 : Int) (Int.toNat (6 : Int)) (ex k n v d)).k (tamP (3 : Int) (Int.toNat (6 : Int)) (ex k n v d)).n
 (tamP (3 : Int) (Int.toNat (6 : Int)) (ex k n v d)).v
 (dE (tamP (3 : Int) (Int.toNat (6 : Int)) (ex k n v d)).kids)).v
 (dE
 (ex (tamP (3 : Int) (Int.toNat (6 : Int)) (ex k n v d)).k (tamP (3 : Int) (Int.toNat (6 : Int)) (ex k n v d)).n
 (tamP (3 : Int) (Int.toNat (6 : Int)) (ex k n v d)).v
 (dE (tamP (3 : Int) (Int.toNat (6 : Int)) (ex k n v d)).kids)).kids))
 ((jnZ (3 : Int) (rowZ (3 : Int) a (3 : Nat)) (rowZ (3 : Int) b (3 : Nat))).fst,
 (jnZ (3 : Int) (rowZ (3 : Int) a (3 : Nat)) (rowZ (3 : Int) b (3 : Nat))).snd))).len ≤
 (1000 : Nat)) ∧
 ((!true ||
 !nhasP (jnZ (3 : Int) (rowZ (3 : Int) a (3 : Nat)) (rowZ (3 : Int) b (3 : Nat))).fst
 (itD (3 : Nat) (3 : Int) (jnZ (3 : Int) (rowZ (3 : Int) a (3 : Nat)) (rowZ (3 : Int) b (3 : Nat)))) (3 : Int)
 (jnZ (3 : Int) (rowZ (3 : Int) a (3 : Nat)) (rowZ (3 : Int) b (3 : Nat))).fst
 (jnZ (3 : Int) (rowZ (3 : Int) a (3 : Nat)) (rowZ (3 : Int) b (3 : Nat))).snd
 ((rowI (3 : Nat) fun (j : Nat) => if c = true then b j else a j).sub (nat_lit 0) (nat_lit 0 + nat_lit 3)) ||
 !((evaP (Int.toNat (3 : Int)) (3 : Int)
 ((jnZ (3 : Int) (rowZ (3 : Int) a (3 : Nat)) (rowZ (3 : Int) b (3 : Nat))).fst,
 (jnZ (3 : Int) (rowZ (3 : Int) a (3 : Nat)) (rowZ (3 : Int) b (3 : Nat))).snd)
 (ex
 (ex (tamP (3 : Int) (Int.toNat (6 : Int)) (ex k n v d)).k
 (tamP (3 : Int) (Int.toNat (6 : Int)) (ex k n v d)).n
 (tamP (3 : Int) (Int.toNat (6 : Int)) (ex k n v d)).v
 (dE (tamP (3 : Int) (Int.toNat (6 : Int)) (ex k n v d)).kids)).k
 (ex (tamP (3 : Int) (Int.toNat (6 : Int)) (ex k n v d)).k
 (tamP (3 : Int) (Int.toNat (6 : Int)) (ex k n v d)).n
 (tamP (3 : Int) (Int.toNat (6 : Int)) (ex k n v d)).v
 (dE (tamP (3 : Int) (Int.toNat (6 : Int)) (ex k n v d)).kids)).n
 (ex (tamP (3 : Int) (Int.toNat (6 : Int)) (ex k n v d)).k
 (tamP (3 : Int) (Int.toNat (6 : Int)) (ex k n v d)).n
 (tamP (3 : Int) (Int.toNat (6 : Int)) (ex k n v d)).v
 (dE (tamP (3 : Int) (Int.toNat (6 : Int)) (ex k n v d)).kids)).v
 (dE
 (ex (tamP (3 : Int) (Int.toNat (6 : Int)) (ex k n v d)).k
 (tamP (3 : Int) (Int.toNat (6 : Int)) (ex k n v d)).n
 (tamP (3 : Int) (Int.toNat (6 : Int)) (ex k n v d)).v
 (dE (tamP (3 : Int) (Int.toNat (6 : Int)) (ex k n v d)).kids)).kids))).snd.fst ==
 (evaP (Int.toNat (3 : Int)) (3 : Int)
 ((jnZ (3 : Int) (rowZ (3 : Int) a (3 : Nat)) (rowZ (3 : Int) b (3 : Nat))).fst,
 (jnZ (3 : Int) (rowZ (3 : Int) a (3 : Nat)) (rowZ (3 : Int) b (3 : Nat))).snd)
 (ex
 (ex (tamP (3 : Int) (Int.toNat (6 : Int)) (ex k n v d)).k
 (tamP (3 : Int) (Int.toNat (6 : Int)) (ex k n v d)).n
 (tamP (3 : Int) (Int.toNat (6 : Int)) (ex k n v d)).v
 (dE (tamP (3 : Int) (Int.toNat (6 : Int)) (ex k n v d)).kids)).k
 (ex (tamP (3 : Int) (Int.toNat (6 : Int)) (ex k n v d)).k
 (tamP (3 : Int) (Int.toNat (6 : Int)) (ex k n v d)).n
 (tamP (3 : Int) (Int.toNat (6 : Int)) (ex k n v d)).v
 (dE (tamP (3 : Int) (Int.toNat (6 : Int)) (ex k n v d)).kids)).n
 (ex (tamP (3 : Int) (Int.toNat (6 : Int)) (ex k n v d)).k
 (tamP (3 : Int) (Int.toNat (6 : Int)) (ex k n v d)).n
 (tamP (3 : Int) (Int.toNat (6 : Int)) (ex k n v d)).v
 (dE (tamP (3 : Int) (Int.toNat (6 : Int)) (ex k n v d)).kids)).v
 (dE
 (ex (tamP (3 : Int) (Int.toNat (6 : Int)) (ex k n v d)).k
 (tamP (3 : Int) (Int.toNat (6 : Int)) (ex k n v d)).n
 (tamP (3 : Int) (Int.toNat (6 : Int)) (ex k n v d)).v
 (dE (tamP (3 : Int) (Int.toNat (6 : Int)) (ex k n v d)).kids)).kids))).snd.fst &&
 ((evaP (Int.toNat (3 : Int)) (3 : Int)
 ((jnZ (3 : Int) (rowZ (3 : Int) a (3 : Nat)) (rowZ (3 : Int) b (3 : Nat))).fst,
 (jnZ (3 : Int) (rowZ (3 : Int) a (3 : Nat)) (rowZ (3 : Int) b (3 : Nat))).snd)
 (ex
 (ex (tamP (3 : Int) (Int.toNat (6 : Int)) (ex k n v d)).k
 (tamP (3 : Int) (Int.toNat (6 : Int)) (ex k n v d)).n
 (tamP (3 : Int) (Int.toNat (6 : Int)) (ex k n v d)).v
 (dE (tamP (3 : Int) (Int.toNat (6 : Int)) (ex k n v d)).kids)).k
 (ex (tamP (3 : Int) (Int.toNat (6 : Int)) (ex k n v d)).k
 (tamP (3 : Int) (Int.toNat (6 : Int)) (ex k n v d)).n
 (tamP (3 : Int) (Int.toNat (6 : Int)) (ex k n v d)).v
 (dE (tamP (3 : Int) (Int.toNat (6 : Int)) (ex k n v d)).kids)).n
 (ex (tamP (3 : Int) (Int.toNat (6 : Int)) (ex k n v d)).k
 (tamP (3 : Int) (Int.toNat (6 : Int)) (ex k n v d)).n
 (tamP (3 : Int) (Int.toNat (6 : Int)) (ex k n v d)).v
 (dE (tamP (3 : Int) (Int.toNat (6 : Int)) (ex k n v d)).kids)).v
 (dE
 (ex (tamP (3 : Int) (Int.toNat (6 : Int)) (ex k n v d)).k
 (tamP (3 : Int) (Int.toNat (6 : Int)) (ex k n v d)).n
 (tamP (3 : Int) (Int.toNat (6 : Int)) (ex k n v d)).v
 (dE (tamP (3 : Int) (Int.toNat (6 : Int)) (ex k n v d)).kids)).kids))).snd.snd ==
 (evaP (Int.toNat (3 : Int)) (3 : Int)
 ((jnZ (3 : Int) (rowZ (3 : Int) a (3 : Nat)) (rowZ (3 : Int) b (3 : Nat))).fst,
 (jnZ (3 : Int) (rowZ (3 : Int) a (3 : Nat)) (rowZ (3 : Int) b (3 : Nat))).snd)
 (ex
 (ex (tamP (3 : Int) (Int.toNat (6 : Int)) (ex k n v d)).k
 (tamP (3 : Int) (Int.toNat (6 : Int)) (ex k n v d)).n
 (tamP (3 : Int) (Int.toNat (6 : Int)) (ex k n v d)).v
 (dE (tamP (3 : Int) (Int.toNat (6 : Int)) (ex k n v d)).kids)).k
 (ex (tamP (3 : Int) (Int.toNat (6 : Int)) (ex k n v d)).k
 (tamP (3 : Int) (Int.toNat (6 : Int)) (ex k n v d)).n
 (tamP (3 : Int) (Int.toNat (6 : Int)) (ex k n v d)).v
 (dE (tamP (3 : Int) (Int.toNat (6 : Int)) (ex k n v d)).kids)).n
 (ex (tamP (3 : Int) (Int.toNat (6 : Int)) (ex k n v d)).k
 (tamP (3 : Int) (Int.toNat (6 : Int)) (ex k n v d)).n
 (tamP (3 : Int) (Int.toNat (6 : Int)) (ex k n v d)).v
 (dE (tamP (3 : Int) (Int.toNat (6 : Int)) (ex k n v d)).kids)).v
 (dE
 (ex (tamP (3 : Int) (Int.toNat (6 : Int)) (ex k n v d)).k
 (tamP (3 : Int) (Int.toNat (6 : Int)) (ex k n v d)).n
 (tamP (3 : Int) (Int.toNat (6 : Int)) (ex k n v d)).v
 (dE (tamP (3 : Int) (Int.toNat (6 : Int)) (ex k n v d)).kids)).kids))).snd.snd &&
 true)) ||
 !nrightP
 (asgZ (3 : Int) (IntKind.i64.wrap ((IntKind.u64.wrap x).tmod (3 : Int)))
 (ex
 (ex (tamP (3 : Int) (Int.toNat (6 : Int)) (ex k n v d)).k
 (tamP (3 : Int) (Int.toNat (6 : Int)) (ex k n v d)).n
 (tamP (3 : Int) (Int.toNat (6 : Int)) (ex k n v d)).v
 (dE (tamP (3 : Int) (Int.toNat (6 : Int)) (ex k n v d)).kids)).k
 (ex (tamP (3 : Int) (Int.toNat (6 : Int)) (ex k n v d)).k
 (tamP (3 : Int) (Int.toNat (6 : Int)) (ex k n v d)).n
 (tamP (3 : Int) (Int.toNat (6 : Int)) (ex k n v d)).v
 (dE (tamP (3 : Int) (Int.toNat (6 : Int)) (ex k n v d)).kids)).n
 (ex (tamP (3 : Int) (Int.toNat (6 : Int)) (ex k n v d)).k
 (tamP (3 : Int) (Int.toNat (6 : Int)) (ex k n v d)).n
 (tamP (3 : Int) (Int.toNat (6 : Int)) (ex k n v d)).v
 (dE (tamP (3 : Int) (Int.toNat (6 : Int)) (ex k n v d)).kids)).v
 (dE
 (ex (tamP (3 : Int) (Int.toNat (6 : Int)) (ex k n v d)).k
 (tamP (3 : Int) (Int.toNat (6 : Int)) (ex k n v d)).n
 (tamP (3 : Int) (Int.toNat (6 : Int)) (ex k n v d)).v
 (dE (tamP (3 : Int) (Int.toNat (6 : Int)) (ex k n v d)).kids)).kids))
 ((jnZ (3 : Int) (rowZ (3 : Int) a (3 : Nat)) (rowZ (3 : Int) b (3 : Nat))).fst,
 (jnZ (3 : Int) (rowZ (3 : Int) a (3 : Nat)) (rowZ (3 : Int) b (3 : Nat))).snd)).fst
 (itD (Int.toNat (3 : Int)) (3 : Int)
 (asgZ (3 : Int) (IntKind.i64.wrap ((IntKind.u64.wrap x).tmod (3 : Int)))
 (ex
 (ex (tamP (3 : Int) (Int.toNat (6 : Int)) (ex k n v d)).k
 (tamP (3 : Int) (Int.toNat (6 : Int)) (ex k n v d)).n
 (tamP (3 : Int) (Int.toNat (6 : Int)) (ex k n v d)).v
 (dE (tamP (3 : Int) (Int.toNat (6 : Int)) (ex k n v d)).kids)).k
 (ex (tamP (3 : Int) (Int.toNat (6 : Int)) (ex k n v d)).k
 (tamP (3 : Int) (Int.toNat (6 : Int)) (ex k n v d)).n
 (tamP (3 : Int) (Int.toNat (6 : Int)) (ex k n v d)).v
 (dE (tamP (3 : Int) (Int.toNat (6 : Int)) (ex k n v d)).kids)).n
 (ex (tamP (3 : Int) (Int.toNat (6 : Int)) (ex k n v d)).k
 (tamP (3 : Int) (Int.toNat (6 : Int)) (ex k n v d)).n
 (tamP (3 : Int) (Int.toNat (6 : Int)) (ex k n v d)).v
 (dE (tamP (3 : Int) (Int.toNat (6 : Int)) (ex k n v d)).kids)).v
 (dE
 (ex (tamP (3 : Int) (Int.toNat (6 : Int)) (ex k n v d)).k
 (tamP (3 : Int) (Int.toNat (6 : Int)) (ex k n v d)).n
 (tamP (3 : Int) (Int.toNat (6 : Int)) (ex k n v d)).v
 (dE (tamP (3 : Int) (Int.toNat (6 : Int)) (ex k n v d)).kids)).kids))
 ((jnZ (3 : Int) (rowZ (3 : Int) a (3 : Nat)) (rowZ (3 : Int) b (3 : Nat))).fst,
 (jnZ (3 : Int) (rowZ (3 : Int) a (3 : Nat)) (rowZ (3 : Int) b (3 : Nat))).snd)))
 (3 : Int)
 (asgZ (3 : Int) (IntKind.i64.wrap ((IntKind.u64.wrap x).tmod (3 : Int)))
 (ex
 (ex (tamP (3 : Int) (Int.toNat (6 : Int)) (ex k n v d)).k
 (tamP (3 : Int) (Int.toNat (6 : Int)) (ex k n v d)).n
 (tamP (3 : Int) (Int.toNat (6 : Int)) (ex k n v d)).v
 (dE (tamP (3 : Int) (Int.toNat (6 : Int)) (ex k n v d)).kids)).k
 (ex (tamP (3 : Int) (Int.toNat (6 : Int)) (ex k n v d)).k
 (tamP (3 : Int) (Int.toNat (6 : Int)) (ex k n v d)).n
 (tamP (3 : Int) (Int.toNat (6 : Int)) (ex k n v d)).v
 (dE (tamP (3 : Int) (Int.toNat (6 : Int)) (ex k n v d)).kids)).n
 (ex (tamP (3 : Int) (Int.toNat (6 : Int)) (ex k n v d)).k
 (tamP (3 : Int) (Int.toNat (6 : Int)) (ex k n v d)).n
 (tamP (3 : Int) (Int.toNat (6 : Int)) (ex k n v d)).v
 (dE (tamP (3 : Int) (Int.toNat (6 : Int)) (ex k n v d)).kids)).v
 (dE
 (ex (tamP (3 : Int) (Int.toNat (6 : Int)) (ex k n v d)).k
 (tamP (3 : Int) (Int.toNat (6 : Int)) (ex k n v d)).n
 (tamP (3 : Int) (Int.toNat (6 : Int)) (ex k n v d)).v
 (dE (tamP (3 : Int) (Int.toNat (6 : Int)) (ex k n v d)).kids)).kids))
 ((jnZ (3 : Int) (rowZ (3 : Int) a (3 : Nat)) (rowZ (3 : Int) b (3 : Nat))).fst,
 (jnZ (3 : Int) (rowZ (3 : Int) a (3 : Nat)) (rowZ (3 : Int) b (3 : Nat))).snd)).fst
 (asgZ (3 : Int) (IntKind.i64.wrap ((IntKind.u64.wrap x).tmod (3 : Int)))
 (ex
 (ex (tamP (3 : Int) (Int.toNat (6 : Int)) (ex k n v d)).k
 (tamP (3 : Int) (Int.toNat (6 : Int)) (ex k n v d)).n
 (tamP (3 : Int) (Int.toNat (6 : Int)) (ex k n v d)).v
 (dE (tamP (3 : Int) (Int.toNat (6 : Int)) (ex k n v d)).kids)).k
 (ex (tamP (3 : Int) (Int.toNat (6 : Int)) (ex k n v d)).k
 (tamP (3 : Int) (Int.toNat (6 : Int)) (ex k n v d)).n
 (tamP (3 : Int) (Int.toNat (6 : Int)) (ex k n v d)).v
 (dE (tamP (3 : Int) (Int.toNat (6 : Int)) (ex k n v d)).kids)).n
 (ex (tamP (3 : Int) (Int.toNat (6 : Int)) (ex k n v d)).k
 (tamP (3 : Int) (Int.toNat (6 : Int)) (ex k n v d)).n
 (tamP (3 : Int) (Int.toNat (6 : Int)) (ex k n v d)).v
 (dE (tamP (3 : Int) (Int.toNat (6 : Int)) (ex k n v d)).kids)).v
 (dE
 (ex (tamP (3 : Int) (Int.toNat (6 : Int)) (ex k n v d)).k
 (tamP (3 : Int) (Int.toNat (6 : Int)) (ex k n v d)).n
 (tamP (3 : Int) (Int.toNat (6 : Int)) (ex k n v d)).v
 (dE (tamP (3 : Int) (Int.toNat (6 : Int)) (ex k n v d)).kids)).kids))
 ((jnZ (3 : Int) (rowZ (3 : Int) a (3 : Nat)) (rowZ (3 : Int) b (3 : Nat))).fst,
 (jnZ (3 : Int) (rowZ (3 : Int) a (3 : Nat)) (rowZ (3 : Int) b (3 : Nat))).snd)).snd ||
 (evT (vD ((rowI (3 : Nat) fun (j : Nat) => if c = true then b j else a j).sub (nat_lit 0) (nat_lit 0 + nat_lit 3)))
 (ex (tamP (3 : Int) (Int.toNat (6 : Int)) (ex k n v d)).k (tamP (3 : Int) (Int.toNat (6 : Int)) (ex k n v d)).n
 (tamP (3 : Int) (Int.toNat (6 : Int)) (ex k n v d)).v
 (dE (tamP (3 : Int) (Int.toNat (6 : Int)) (ex k n v d)).kids))).snd ==
 (2 : Int) &&
 !(evaP (Int.toNat (3 : Int)) (3 : Int)
 ((jnZ (3 : Int) (rowZ (3 : Int) a (3 : Nat)) (rowZ (3 : Int) b (3 : Nat))).fst,
 (jnZ (3 : Int) (rowZ (3 : Int) a (3 : Nat)) (rowZ (3 : Int) b (3 : Nat))).snd)
 (ex
 (ex (tamP (3 : Int) (Int.toNat (6 : Int)) (ex k n v d)).k
 (tamP (3 : Int) (Int.toNat (6 : Int)) (ex k n v d)).n
 (tamP (3 : Int) (Int.toNat (6 : Int)) (ex k n v d)).v
 (dE (tamP (3 : Int) (Int.toNat (6 : Int)) (ex k n v d)).kids)).k
 (ex (tamP (3 : Int) (Int.toNat (6 : Int)) (ex k n v d)).k
 (tamP (3 : Int) (Int.toNat (6 : Int)) (ex k n v d)).n
 (tamP (3 : Int) (Int.toNat (6 : Int)) (ex k n v d)).v
 (dE (tamP (3 : Int) (Int.toNat (6 : Int)) (ex k n v d)).kids)).n
 (ex (tamP (3 : Int) (Int.toNat (6 : Int)) (ex k n v d)).k
 (tamP (3 : Int) (Int.toNat (6 : Int)) (ex k n v d)).n
 (tamP (3 : Int) (Int.toNat (6 : Int)) (ex k n v d)).v
 (dE (tamP (3 : Int) (Int.toNat (6 : Int)) (ex k n v d)).kids)).v
 (dE
 (ex (tamP (3 : Int) (Int.toNat (6 : Int)) (ex k n v d)).k
 (tamP (3 : Int) (Int.toNat (6 : Int)) (ex k n v d)).n
 (tamP (3 : Int) (Int.toNat (6 : Int)) (ex k n v d)).v
 (dE (tamP (3 : Int) (Int.toNat (6 : Int)) (ex k n v d)).kids)).kids))).snd.fst ||
 (evT (vD ((rowI (3 : Nat) fun (j : Nat) => if c = true then b j else a j).sub (nat_lit 0) (nat_lit 0 + nat_lit 3)))
 (ex (tamP (3 : Int) (Int.toNat (6 : Int)) (ex k n v d)).k (tamP (3 : Int) (Int.toNat (6 : Int)) (ex k n v d)).n
 (tamP (3 : Int) (Int.toNat (6 : Int)) (ex k n v d)).v
 (dE (tamP (3 : Int) (Int.toNat (6 : Int)) (ex k n v d)).kids))).snd ==
 (3 : Int) &&
 !(evaP (Int.toNat (3 : Int)) (3 : Int)
 ((jnZ (3 : Int) (rowZ (3 : Int) a (3 : Nat)) (rowZ (3 : Int) b (3 : Nat))).fst,
 (jnZ (3 : Int) (rowZ (3 : Int) a (3 : Nat)) (rowZ (3 : Int) b (3 : Nat))).snd)
 (ex
 (ex (tamP (3 : Int) (Int.toNat (6 : Int)) (ex k n v d)).k
 (tamP (3 : Int) (Int.toNat (6 : Int)) (ex k n v d)).n
 (tamP (3 : Int) (Int.toNat (6 : Int)) (ex k n v d)).v
 (dE (tamP (3 : Int) (Int.toNat (6 : Int)) (ex k n v d)).kids)).k
 (ex (tamP (3 : Int) (Int.toNat (6 : Int)) (ex k n v d)).k
 (tamP (3 : Int) (Int.toNat (6 : Int)) (ex k n v d)).n
 (tamP (3 : Int) (Int.toNat (6 : Int)) (ex k n v d)).v
 (dE (tamP (3 : Int) (Int.toNat (6 : Int)) (ex k n v d)).kids)).n
 (ex (tamP (3 : Int) (Int.toNat (6 : Int)) (ex k n v d)).k
 (tamP (3 : Int) (Int.toNat (6 : Int)) (ex k n v d)).n
 (tamP (3 : Int) (Int.toNat (6 : Int)) (ex k n v d)).v
 (dE (tamP (3 : Int) (Int.toNat (6 : Int)) (ex k n v d)).kids)).v
 (dE
 (ex (tamP (3 : Int) (Int.toNat (6 : Int)) (ex k n v d)).k
 (tamP (3 : Int) (Int.toNat (6 : Int)) (ex k n v d)).n
 (tamP (3 : Int) (Int.toNat (6 : Int)) (ex k n v d)).v
 (dE (tamP (3 : Int) (Int.toNat (6 : Int)) (ex k n v d)).kids)).kids))).snd.snd) =
 true →
 false = true) ∧
 ((!true ||
 !nhasP (jnZ (3 : Int) (rowZ (3 : Int) a (3 : Nat)) (rowZ (3 : Int) b (3 : Nat))).fst
 (itD (3 : Nat) (3 : Int) (jnZ (3 : Int) (rowZ (3 : Int) a (3 : Nat)) (rowZ (3 : Int) b (3 : Nat)))) (3 : Int)
 (jnZ (3 : Int) (rowZ (3 : Int) a (3 : Nat)) (rowZ (3 : Int) b (3 : Nat))).fst
 (jnZ (3 : Int) (rowZ (3 : Int) a (3 : Nat)) (rowZ (3 : Int) b (3 : Nat))).snd
 ((rowI (3 : Nat) fun (j : Nat) => if c = true then b j else a j).sub (nat_lit 0) (nat_lit 0 + nat_lit 3)) ||
 !((evaP (Int.toNat (3 : Int)) (3 : Int)
 ((jnZ (3 : Int) (rowZ (3 : Int) a (3 : Nat)) (rowZ (3 : Int) b (3 : Nat))).fst,
 (jnZ (3 : Int) (rowZ (3 : Int) a (3 : Nat)) (rowZ (3 : Int) b (3 : Nat))).snd)
 (ex
 (ex (tamP (3 : Int) (Int.toNat (6 : Int)) (ex k n v d)).k
 (tamP (3 : Int) (Int.toNat (6 : Int)) (ex k n v d)).n
 (tamP (3 : Int) (Int.toNat (6 : Int)) (ex k n v d)).v
 (dE (tamP (3 : Int) (Int.toNat (6 : Int)) (ex k n v d)).kids)).k
 (ex (tamP (3 : Int) (Int.toNat (6 : Int)) (ex k n v d)).k
 (tamP (3 : Int) (Int.toNat (6 : Int)) (ex k n v d)).n
 (tamP (3 : Int) (Int.toNat (6 : Int)) (ex k n v d)).v
 (dE (tamP (3 : Int) (Int.toNat (6 : Int)) (ex k n v d)).kids)).n
 (ex (tamP (3 : Int) (Int.toNat (6 : Int)) (ex k n v d)).k
 (tamP (3 : Int) (Int.toNat (6 : Int)) (ex k n v d)).n
 (tamP (3 : Int) (Int.toNat (6 : Int)) (ex k n v d)).v
 (dE (tamP (3 : Int) (Int.toNat (6 : Int)) (ex k n v d)).kids)).v
 (dE
 (ex (tamP (3 : Int) (Int.toNat (6 : Int)) (ex k n v d)).k
 (tamP (3 : Int) (Int.toNat (6 : Int)) (ex k n v d)).n
 (tamP (3 : Int) (Int.toNat (6 : Int)) (ex k n v d)).v
 (dE (tamP (3 : Int) (Int.toNat (6 : Int)) (ex k n v d)).kids)).kids))).snd.fst ==
 (evaP (Int.toNat (3 : Int)) (3 : Int)
 ((jnZ (3 : Int) (rowZ (3 : Int) a (3 : Nat)) (rowZ (3 : Int) b (3 : Nat))).fst,
 (jnZ (3 : Int) (rowZ (3 : Int) a (3 : Nat)) (rowZ (3 : Int) b (3 : Nat))).snd)
 (ex
 (ex (tamP (3 : Int) (Int.toNat (6 : Int)) (ex k n v d)).k
 (tamP (3 : Int) (Int.toNat (6 : Int)) (ex k n v d)).n
 (tamP (3 : Int) (Int.toNat (6 : Int)) (ex k n v d)).v
 (dE (tamP (3 : Int) (Int.toNat (6 : Int)) (ex k n v d)).kids)).k
 (ex (tamP (3 : Int) (Int.toNat (6 : Int)) (ex k n v d)).k
 (tamP (3 : Int) (Int.toNat (6 : Int)) (ex k n v d)).n
 (tamP (3 : Int) (Int.toNat (6 : Int)) (ex k n v d)).v
 (dE (tamP (3 : Int) (Int.toNat (6 : Int)) (ex k n v d)).kids)).n
 (ex (tamP (3 : Int) (Int.toNat (6 : Int)) (ex k n v d)).k
 (tamP (3 : Int) (Int.toNat (6 : Int)) (ex k n v d)).n
 (tamP (3 : Int) (Int.toNat (6 : Int)) (ex k n v d)).v
 (dE (tamP (3 : Int) (Int.toNat (6 : Int)) (ex k n v d)).kids)).v
 (dE
 (ex (tamP (3 : Int) (Int.toNat (6 : Int)) (ex k n v d)).k
 (tamP (3 : Int) (Int.toNat (6 : Int)) (ex k n v d)).n
 (tamP (3 : Int) (Int.toNat (6 : Int)) (ex k n v d)).v
 (dE (tamP (3 : Int) (Int.toNat (6 : Int)) (ex k n v d)).kids)).kids))).snd.fst &&
 ((evaP (Int.toNat (3 : Int)) (3 : Int)
 ((jnZ (3 : Int) (rowZ (3 : Int) a (3 : Nat)) (rowZ (3 : Int) b (3 : Nat))).fst,
 (jnZ (3 : Int) (rowZ (3 : Int) a (3 : Nat)) (rowZ (3 : Int) b (3 : Nat))).snd)
 (ex
 (ex (tamP (3 : Int) (Int.toNat (6 : Int)) (ex k n v d)).k
 (tamP (3 : Int) (Int.toNat (6 : Int)) (ex k n v d)).n
 (tamP (3 : Int) (Int.toNat (6 : Int)) (ex k n v d)).v
 (dE (tamP (3 : Int) (Int.toNat (6 : Int)) (ex k n v d)).kids)).k
 (ex (tamP (3 : Int) (Int.toNat (6 : Int)) (ex k n v d)).k
 (tamP (3 : Int) (Int.toNat (6 : Int)) (ex k n v d)).n
 (tamP (3 : Int) (Int.toNat (6 : Int)) (ex k n v d)).v
 (dE (tamP (3 : Int) (Int.toNat (6 : Int)) (ex k n v d)).kids)).n
 (ex (tamP (3 : Int) (Int.toNat (6 : Int)) (ex k n v d)).k
 (tamP (3 : Int) (Int.toNat (6 : Int)) (ex k n v d)).n
 (tamP (3 : Int) (Int.toNat (6 : Int)) (ex k n v d)).v
 (dE (tamP (3 : Int) (Int.toNat (6 : Int)) (ex k n v d)).kids)).v
 (dE
 (ex (tamP (3 : Int) (Int.toNat (6 : Int)) (ex k n v d)).k
 (tamP (3 : Int) (Int.toNat (6 : Int)) (ex k n v d)).n
 (tamP (3 : Int) (Int.toNat (6 : Int)) (ex k n v d)).v
 (dE (tamP (3 : Int) (Int.toNat (6 : Int)) (ex k n v d)).kids)).kids))).snd.snd ==
 (evaP (Int.toNat (3 : Int)) (3 : Int)
 ((jnZ (3 : Int) (rowZ (3 : Int) a (3 : Nat)) (rowZ (3 : Int) b (3 : Nat))).fst,
 (jnZ (3 : Int) (rowZ (3 : Int) a (3 : Nat)) (rowZ (3 : Int) b (3 : Nat))).snd)
 (ex
 (ex (tamP (3 : Int) (Int.toNat (6 : Int)) (ex k n v d)).k
 (tamP (3 : Int) (Int.toNat (6 : Int)) (ex k n v d)).n
 (tamP (3 : Int) (Int.toNat (6 : Int)) (ex k n v d)).v
 (dE (tamP (3 : Int) (Int.toNat (6 : Int)) (ex k n v d)).kids)).k
 (ex (tamP (3 : Int) (Int.toNat (6 : Int)) (ex k n v d)).k
 (tamP (3 : Int) (Int.toNat (6 : Int)) (ex k n v d)).n
 (tamP (3 : Int) (Int.toNat (6 : Int)) (ex k n v d)).v
 (dE (tamP (3 : Int) (Int.toNat (6 : Int)) (ex k n v d)).kids)).n
 (ex (tamP (3 : Int) (Int.toNat (6 : Int)) (ex k n v d)).k
 (tamP (3 : Int) (Int.toNat (6 : Int)) (ex k n v d)).n
 (tamP (3 : Int) (Int.toNat (6 : Int)) (ex k n v d)).v
 (dE (tamP (3 : Int) (Int.toNat (6 : Int)) (ex k n v d)).kids)).v
 (dE
 (ex (tamP (3 : Int) (Int.toNat (6 : Int)) (ex k n v d)).k
 (tamP (3 : Int) (Int.toNat (6 : Int)) (ex k n v d)).n
 (tamP (3 : Int) (Int.toNat (6 : Int)) (ex k n v d)).v
 (dE (tamP (3 : Int) (Int.toNat (6 : Int)) (ex k n v d)).kids)).kids))).snd.snd &&
 true)) ||
 !nrightP
 (asgZ (3 : Int) (IntKind.i64.wrap ((IntKind.u64.wrap x).tmod (3 : Int)))
 (ex
 (ex (tamP (3 : Int) (Int.toNat (6 : Int)) (ex k n v d)).k
 (tamP (3 : Int) (Int.toNat (6 : Int)) (ex k n v d)).n
 (tamP (3 : Int) (Int.toNat (6 : Int)) (ex k n v d)).v
 (dE (tamP (3 : Int) (Int.toNat (6 : Int)) (ex k n v d)).kids)).k
 (ex (tamP (3 : Int) (Int.toNat (6 : Int)) (ex k n v d)).k
 (tamP (3 : Int) (Int.toNat (6 : Int)) (ex k n v d)).n
 (tamP (3 : Int) (Int.toNat (6 : Int)) (ex k n v d)).v
 (dE (tamP (3 : Int) (Int.toNat (6 : Int)) (ex k n v d)).kids)).n
 (ex (tamP (3 : Int) (Int.toNat (6 : Int)) (ex k n v d)).k
 (tamP (3 : Int) (Int.toNat (6 : Int)) (ex k n v d)).n
 (tamP (3 : Int) (Int.toNat (6 : Int)) (ex k n v d)).v
 (dE (tamP (3 : Int) (Int.toNat (6 : Int)) (ex k n v d)).kids)).v
 (dE
 (ex (tamP (3 : Int) (Int.toNat (6 : Int)) (ex k n v d)).k
 (tamP (3 : Int) (Int.toNat (6 : Int)) (ex k n v d)).n
 (tamP (3 : Int) (Int.toNat (6 : Int)) (ex k n v d)).v
 (dE (tamP (3 : Int) (Int.toNat (6 : Int)) (ex k n v d)).kids)).kids))
 ((jnZ (3 : Int) (rowZ (3 : Int) a (3 : Nat)) (rowZ (3 : Int) b (3 : Nat))).fst,
 (jnZ (3 : Int) (rowZ (3 : Int) a (3 : Nat)) (rowZ (3 : Int) b (3 : Nat))).snd)).fst
 (itD (Int.toNat (3 : Int)) (3 : Int)
 (asgZ (3 : Int) (IntKind.i64.wrap ((IntKind.u64.wrap x).tmod (3 : Int)))
 (ex
 (ex (tamP (3 : Int) (Int.toNat (6 : Int)) (ex k n v d)).k
 (tamP (3 : Int) (Int.toNat (6 : Int)) (ex k n v d)).n
 (tamP (3 : Int) (Int.toNat (6 : Int)) (ex k n v d)).v
 (dE (tamP (3 : Int) (Int.toNat (6 : Int)) (ex k n v d)).kids)).k
 (ex (tamP (3 : Int) (Int.toNat (6 : Int)) (ex k n v d)).k
 (tamP (3 : Int) (Int.toNat (6 : Int)) (ex k n v d)).n
 (tamP (3 : Int) (Int.toNat (6 : Int)) (ex k n v d)).v
 (dE (tamP (3 : Int) (Int.toNat (6 : Int)) (ex k n v d)).kids)).n
 (ex (tamP (3 : Int) (Int.toNat (6 : Int)) (ex k n v d)).k
 (tamP (3 : Int) (Int.toNat (6 : Int)) (ex k n v d)).n
 (tamP (3 : Int) (Int.toNat (6 : Int)) (ex k n v d)).v
 (dE (tamP (3 : Int) (Int.toNat (6 : Int)) (ex k n v d)).kids)).v
 (dE
 (ex (tamP (3 : Int) (Int.toNat (6 : Int)) (ex k n v d)).k
 (tamP (3 : Int) (Int.toNat (6 : Int)) (ex k n v d)).n
 (tamP (3 : Int) (Int.toNat (6 : Int)) (ex k n v d)).v
 (dE (tamP (3 : Int) (Int.toNat (6 : Int)) (ex k n v d)).kids)).kids))
 ((jnZ (3 : Int) (rowZ (3 : Int) a (3 : Nat)) (rowZ (3 : Int) b (3 : Nat))).fst,
 (jnZ (3 : Int) (rowZ (3 : Int) a (3 : Nat)) (rowZ (3 : Int) b (3 : Nat))).snd)))
 (3 : Int)
 (asgZ (3 : Int) (IntKind.i64.wrap ((IntKind.u64.wrap x).tmod (3 : Int)))
 (ex
 (ex (tamP (3 : Int) (Int.toNat (6 : Int)) (ex k n v d)).k
 (tamP (3 : Int) (Int.toNat (6 : Int)) (ex k n v d)).n
 (tamP (3 : Int) (Int.toNat (6 : Int)) (ex k n v d)).v
 (dE (tamP (3 : Int) (Int.toNat (6 : Int)) (ex k n v d)).kids)).k
 (ex (tamP (3 : Int) (Int.toNat (6 : Int)) (ex k n v d)).k
 (tamP (3 : Int) (Int.toNat (6 : Int)) (ex k n v d)).n
 (tamP (3 : Int) (Int.toNat (6 : Int)) (ex k n v d)).v
 (dE (tamP (3 : Int) (Int.toNat (6 : Int)) (ex k n v d)).kids)).n
 (ex (tamP (3 : Int) (Int.toNat (6 : Int)) (ex k n v d)).k
 (tamP (3 : Int) (Int.toNat (6 : Int)) (ex k n v d)).n
 (tamP (3 : Int) (Int.toNat (6 : Int)) (ex k n v d)).v
 (dE (tamP (3 : Int) (Int.toNat (6 : Int)) (ex k n v d)).kids)).v
 (dE
 (ex (tamP (3 : Int) (Int.toNat (6 : Int)) (ex k n v d)).k
 (tamP (3 : Int) (Int.toNat (6 : Int)) (ex k n v d)).n
 (tamP (3 : Int) (Int.toNat (6 : Int)) (ex k n v d)).v
 (dE (tamP (3 : Int) (Int.toNat (6 : Int)) (ex k n v d)).kids)).kids))
 ((jnZ (3 : Int) (rowZ (3 : Int) a (3 : Nat)) (rowZ (3 : Int) b (3 : Nat))).fst,
 (jnZ (3 : Int) (rowZ (3 : Int) a (3 : Nat)) (rowZ (3 : Int) b (3 : Nat))).snd)).fst
 (asgZ (3 : Int) (IntKind.i64.wrap ((IntKind.u64.wrap x).tmod (3 : Int)))
 (ex
 (ex (tamP (3 : Int) (Int.toNat (6 : Int)) (ex k n v d)).k
 (tamP (3 : Int) (Int.toNat (6 : Int)) (ex k n v d)).n
 (tamP (3 : Int) (Int.toNat (6 : Int)) (ex k n v d)).v
 (dE (tamP (3 : Int) (Int.toNat (6 : Int)) (ex k n v d)).kids)).k
 (ex (tamP (3 : Int) (Int.toNat (6 : Int)) (ex k n v d)).k
 (tamP (3 : Int) (Int.toNat (6 : Int)) (ex k n v d)).n
 (tamP (3 : Int) (Int.toNat (6 : Int)) (ex k n v d)).v
 (dE (tamP (3 : Int) (Int.toNat (6 : Int)) (ex k n v d)).kids)).n
 (ex (tamP (3 : Int) (Int.toNat (6 : Int)) (ex k n v d)).k
 (tamP (3 : Int) (Int.toNat (6 : Int)) (ex k n v d)).n
 (tamP (3 : Int) (Int.toNat (6 : Int)) (ex k n v d)).v
 (dE (tamP (3 : Int) (Int.toNat (6 : Int)) (ex k n v d)).kids)).v
 (dE
 (ex (tamP (3 : Int) (Int.toNat (6 : Int)) (ex k n v d)).k
 (tamP (3 : Int) (Int.toNat (6 : Int)) (ex k n v d)).n
 (tamP (3 : Int) (Int.toNat (6 : Int)) (ex k n v d)).v
 (dE (tamP (3 : Int) (Int.toNat (6 : Int)) (ex k n v d)).kids)).kids))
 ((jnZ (3 : Int) (rowZ (3 : Int) a (3 : Nat)) (rowZ (3 : Int) b (3 : Nat))).fst,
 (jnZ (3 : Int) (rowZ (3 : Int) a (3 : Nat)) (rowZ (3 : Int) b (3 : Nat))).snd)).snd ||
 (evT (vD ((rowI (3 : Nat) fun (j : Nat) => if c = true then b j else a j).sub (nat_lit 0) (nat_lit 0 + nat_lit 3)))
 (ex (tamP (3 : Int) (Int.toNat (6 : Int)) (ex k n v d)).k (tamP (3 : Int) (Int.toNat (6 : Int)) (ex k n v d)).n
 (tamP (3 : Int) (Int.toNat (6 : Int)) (ex k n v d)).v
 (dE (tamP (3 : Int) (Int.toNat (6 : Int)) (ex k n v d)).kids))).snd ==
 (2 : Int) &&
 !(evaP (Int.toNat (3 : Int)) (3 : Int)
 ((jnZ (3 : Int) (rowZ (3 : Int) a (3 : Nat)) (rowZ (3 : Int) b (3 : Nat))).fst,
 (jnZ (3 : Int) (rowZ (3 : Int) a (3 : Nat)) (rowZ (3 : Int) b (3 : Nat))).snd)
 (ex
 (ex (tamP (3 : Int) (Int.toNat (6 : Int)) (ex k n v d)).k
 (tamP (3 : Int) (Int.toNat (6 : Int)) (ex k n v d)).n
 (tamP (3 : Int) (Int.toNat (6 : Int)) (ex k n v d)).v
 (dE (tamP (3 : Int) (Int.toNat (6 : Int)) (ex k n v d)).kids)).k
 (ex (tamP (3 : Int) (Int.toNat (6 : Int)) (ex k n v d)).k
 (tamP (3 : Int) (Int.toNat (6 : Int)) (ex k n v d)).n
 (tamP (3 : Int) (Int.toNat (6 : Int)) (ex k n v d)).v
 (dE (tamP (3 : Int) (Int.toNat (6 : Int)) (ex k n v d)).kids)).n
 (ex (tamP (3 : Int) (Int.toNat (6 : Int)) (ex k n v d)).k
 (tamP (3 : Int) (Int.toNat (6 : Int)) (ex k n v d)).n
 (tamP (3 : Int) (Int.toNat (6 : Int)) (ex k n v d)).v
 (dE (tamP (3 : Int) (Int.toNat (6 : Int)) (ex k n v d)).kids)).v
 (dE
 (ex (tamP (3 : Int) (Int.toNat (6 : Int)) (ex k n v d)).k
 (tamP (3 : Int) (Int.toNat (6 : Int)) (ex k n v d)).n
 (tamP (3 : Int) (Int.toNat (6 : Int)) (ex k n v d)).v
 (dE (tamP (3 : Int) (Int.toNat (6 : Int)) (ex k n v d)).kids)).kids))).snd.fst ||
 (evT (vD ((rowI (3 : Nat) fun (j : Nat) => if c = true then b j else a j).sub (nat_lit 0) (nat_lit 0 + nat_lit 3)))
 (ex (tamP (3 : Int) (Int.toNat (6 : Int)) (ex k n v d)).k (tamP (3 : Int) (Int.toNat (6 : Int)) (ex k n v d)).n
 (tamP (3 : Int) (Int.toNat (6 : Int)) (ex k n v d)).v
 (dE (tamP (3 : Int) (Int.toNat (6 : Int)) (ex k n v d)).kids))).snd ==
 (3 : Int) &&
 !(evaP (Int.toNat (3 : Int)) (3 : Int)
 ((jnZ (3 : Int) (rowZ (3 : Int) a (3 : Nat)) (rowZ (3 : Int) b (3 : Nat))).fst,
 (jnZ (3 : Int) (rowZ (3 : Int) a (3 : Nat)) (rowZ (3 : Int) b (3 : Nat))).snd)
 (ex
 (ex (tamP (3 : Int) (Int.toNat (6 : Int)) (ex k n v d)).k
 (tamP (3 : Int) (Int.toNat (6 : Int)) (ex k n v d)).n
 (tamP (3 : Int) (Int.toNat (6 : Int)) (ex k n v d)).v
 (dE (tamP (3 : Int) (Int.toNat (6 : Int)) (ex k n v d)).kids)).k
 (ex (tamP (3 : Int) (Int.toNat (6 : Int)) (ex k n v d)).k
 (tamP (3 : Int) (Int.toNat (6 : Int)) (ex k n v d)).n
 (tamP (3 : Int) (Int.toNat (6 : Int)) (ex k n v d)).v
 (dE (tamP (3 : Int) (Int.toNat (6 : Int)) (ex k n v d)).kids)).n
 (ex (tamP (3 : Int) (Int.toNat (6 : Int)) (ex k n v d)).k
 (tamP (3 : Int) (Int.toNat (6 : Int)) (ex k n v d)).n
 (tamP (3 : Int) (Int.toNat (6 : Int)) (ex k n v d)).v
 (dE (tamP (3 : Int) (Int.toNat (6 : Int)) (ex k n v d)).kids)).v
 (dE
 (ex (tamP (3 : Int) (Int.toNat (6 : Int)) (ex k n v d)).k
 (tamP (3 : Int) (Int.toNat (6 : Int)) (ex k n v d)).n
 (tamP (3 : Int) (Int.toNat (6 : Int)) (ex k n v d)).v
 (dE (tamP (3 : Int) (Int.toNat (6 : Int)) (ex k n v d)).kids)).kids))).snd.snd) =
 false →
 (((evT (vD ((rowI (3 : Nat) fun (j : Nat) => if c = true then b j else a j).sub (nat_lit 0) (nat_lit 0 + nat_lit 3)))
 (ex (tamP (3 : Int) (Int.toNat (6 : Int)) (ex k n v d)).k (tamP (3 : Int) (Int.toNat (6 : Int)) (ex k n v d)).n
 (tamP (3 : Int) (Int.toNat (6 : Int)) (ex k n v d)).v
 (dE (tamP (3 : Int) (Int.toNat (6 : Int)) (ex k n v d)).kids))).snd !=
 (0 : Int)) =
 true →
 true = true) ∧
 (((evT (vD ((rowI (3 : Nat) fun (j : Nat) => if c = true then b j else a j).sub (nat_lit 0) (nat_lit 0 + nat_lit 3)))
 (ex (tamP (3 : Int) (Int.toNat (6 : Int)) (ex k n v d)).k (tamP (3 : Int) (Int.toNat (6 : Int)) (ex k n v d)).n
 (tamP (3 : Int) (Int.toNat (6 : Int)) (ex k n v d)).v
 (dE (tamP (3 : Int) (Int.toNat (6 : Int)) (ex k n v d)).kids))).snd !=
 (0 : Int)) =
 false →
 (0 : Nat) = (D.l []).len ∧
 ((0 : Nat) +
 ((rowI (3 : Nat) fun (j : Nat) => if c = true then b j else a j).sub (nat_lit 0) (nat_lit 0 + nat_lit 3)).len) *
 (8 : Nat) ≤
 (140737488355328 : Nat) ∧
 nat_lit 0 + nat_lit 3 ≤ (rowI (3 : Nat) fun (j : Nat) => if c = true then b j else a j).len ∧
 ((0 : Int) ≤ IntKind.i64.wrap ((IntKind.u64.wrap x).tmod (3 : Int)) ∧
 IntKind.i64.wrap ((IntKind.u64.wrap x).tmod (3 : Int)) < (↑(nat_lit 3) : Int)) ∧
 (IntKind.i64.wrap ((IntKind.u64.wrap x).tmod (3 : Int))).toNat <
 ((D.l []).app
 ((rowI (3 : Nat) fun (j : Nat) => if c = true then b j else a j).sub (nat_lit 0)
 (nat_lit 0 + nat_lit 3))).len ∧
 ((decide
 ((evaP (Int.toNat (3 : Int)) (3 : Int)
 ((jnZ (3 : Int) (rowZ (3 : Int) a (3 : Nat)) (rowZ (3 : Int) b (3 : Nat))).fst,
 (jnZ (3 : Int) (rowZ (3 : Int) a (3 : Nat)) (rowZ (3 : Int) b (3 : Nat))).snd)
 (ex
 (ex (tamP (3 : Int) (Int.toNat (6 : Int)) (ex k n v d)).k
 (tamP (3 : Int) (Int.toNat (6 : Int)) (ex k n v d)).n
 (tamP (3 : Int) (Int.toNat (6 : Int)) (ex k n v d)).v
 (dE (tamP (3 : Int) (Int.toNat (6 : Int)) (ex k n v d)).kids)).k
 (ex (tamP (3 : Int) (Int.toNat (6 : Int)) (ex k n v d)).k
 (tamP (3 : Int) (Int.toNat (6 : Int)) (ex k n v d)).n
 (tamP (3 : Int) (Int.toNat (6 : Int)) (ex k n v d)).v
 (dE (tamP (3 : Int) (Int.toNat (6 : Int)) (ex k n v d)).kids)).n
 (ex (tamP (3 : Int) (Int.toNat (6 : Int)) (ex k n v d)).k
 (tamP (3 : Int) (Int.toNat (6 : Int)) (ex k n v d)).n
 (tamP (3 : Int) (Int.toNat (6 : Int)) (ex k n v d)).v
 (dE (tamP (3 : Int) (Int.toNat (6 : Int)) (ex k n v d)).kids)).v
 (dE
 (ex (tamP (3 : Int) (Int.toNat (6 : Int)) (ex k n v d)).k
 (tamP (3 : Int) (Int.toNat (6 : Int)) (ex k n v d)).n
 (tamP (3 : Int) (Int.toNat (6 : Int)) (ex k n v d)).v
 (dE (tamP (3 : Int) (Int.toNat (6 : Int)) (ex k n v d)).kids)).kids))).fst.fst ≤
 (evT
 (vD
 ((rowI (3 : Nat) fun (j : Nat) => if c = true then b j else a j).sub (nat_lit 0)
 (nat_lit 0 + nat_lit 3)))
 (ex (tamP (3 : Int) (Int.toNat (6 : Int)) (ex k n v d)).k
 (tamP (3 : Int) (Int.toNat (6 : Int)) (ex k n v d)).n
 (tamP (3 : Int) (Int.toNat (6 : Int)) (ex k n v d)).v
 (dE (tamP (3 : Int) (Int.toNat (6 : Int)) (ex k n v d)).kids))).fst) &&
 decide
 ((evT
 (vD
 ((rowI (3 : Nat) fun (j : Nat) => if c = true then b j else a j).sub (nat_lit 0)
 (nat_lit 0 + nat_lit 3)))
 (ex (tamP (3 : Int) (Int.toNat (6 : Int)) (ex k n v d)).k
 (tamP (3 : Int) (Int.toNat (6 : Int)) (ex k n v d)).n
 (tamP (3 : Int) (Int.toNat (6 : Int)) (ex k n v d)).v
 (dE (tamP (3 : Int) (Int.toNat (6 : Int)) (ex k n v d)).kids))).fst ≤
 (evaP (Int.toNat (3 : Int)) (3 : Int)
 ((jnZ (3 : Int) (rowZ (3 : Int) a (3 : Nat)) (rowZ (3 : Int) b (3 : Nat))).fst,
 (jnZ (3 : Int) (rowZ (3 : Int) a (3 : Nat)) (rowZ (3 : Int) b (3 : Nat))).snd)
 (ex
 (ex (tamP (3 : Int) (Int.toNat (6 : Int)) (ex k n v d)).k
 (tamP (3 : Int) (Int.toNat (6 : Int)) (ex k n v d)).n
 (tamP (3 : Int) (Int.toNat (6 : Int)) (ex k n v d)).v
 (dE (tamP (3 : Int) (Int.toNat (6 : Int)) (ex k n v d)).kids)).k
 (ex (tamP (3 : Int) (Int.toNat (6 : Int)) (ex k n v d)).k
 (tamP (3 : Int) (Int.toNat (6 : Int)) (ex k n v d)).n
 (tamP (3 : Int) (Int.toNat (6 : Int)) (ex k n v d)).v
 (dE (tamP (3 : Int) (Int.toNat (6 : Int)) (ex k n v d)).kids)).n
 (ex (tamP (3 : Int) (Int.toNat (6 : Int)) (ex k n v d)).k
 (tamP (3 : Int) (Int.toNat (6 : Int)) (ex k n v d)).n
 (tamP (3 : Int) (Int.toNat (6 : Int)) (ex k n v d)).v
 (dE (tamP (3 : Int) (Int.toNat (6 : Int)) (ex k n v d)).kids)).v
 (dE
 (ex (tamP (3 : Int) (Int.toNat (6 : Int)) (ex k n v d)).k
 (tamP (3 : Int) (Int.toNat (6 : Int)) (ex k n v d)).n
 (tamP (3 : Int) (Int.toNat (6 : Int)) (ex k n v d)).v
 (dE (tamP (3 : Int) (Int.toNat (6 : Int)) (ex k n v d)).kids)).kids))).fst.snd)) =
 true ∧
 True →
 nat_lit 0 + nat_lit 3 ≤
 (((D.l []).app
 ((rowI (3 : Nat) fun (j : Nat) => if c = true then b j else a j).sub (nat_lit 0)
 (nat_lit 0 + nat_lit 3))).setc
 [K.int IntKind.i64].length (IntKind.i64.wrap ((IntKind.u64.wrap x).tmod (3 : Int))).toNat (0 : Nat)
 [D.i
 (evT
 (vD
 ((rowI (3 : Nat) fun (j : Nat) => if c = true then b j else a j).sub (nat_lit 0)
 (nat_lit 0 + nat_lit 3)))
 (ex (tamP (3 : Int) (Int.toNat (6 : Int)) (ex k n v d)).k
 (tamP (3 : Int) (Int.toNat (6 : Int)) (ex k n v d)).n
 (tamP (3 : Int) (Int.toNat (6 : Int)) (ex k n v d)).v
 (dE (tamP (3 : Int) (Int.toNat (6 : Int)) (ex k n v d)).kids))).fst]).len) ∧
 ((decide
 ((evaP (Int.toNat (3 : Int)) (3 : Int)
 ((jnZ (3 : Int) (rowZ (3 : Int) a (3 : Nat)) (rowZ (3 : Int) b (3 : Nat))).fst,
 (jnZ (3 : Int) (rowZ (3 : Int) a (3 : Nat)) (rowZ (3 : Int) b (3 : Nat))).snd)
 (ex
 (ex (tamP (3 : Int) (Int.toNat (6 : Int)) (ex k n v d)).k
 (tamP (3 : Int) (Int.toNat (6 : Int)) (ex k n v d)).n
 (tamP (3 : Int) (Int.toNat (6 : Int)) (ex k n v d)).v
 (dE (tamP (3 : Int) (Int.toNat (6 : Int)) (ex k n v d)).kids)).k
 (ex (tamP (3 : Int) (Int.toNat (6 : Int)) (ex k n v d)).k
 (tamP (3 : Int) (Int.toNat (6 : Int)) (ex k n v d)).n
 (tamP (3 : Int) (Int.toNat (6 : Int)) (ex k n v d)).v
 (dE (tamP (3 : Int) (Int.toNat (6 : Int)) (ex k n v d)).kids)).n
 (ex (tamP (3 : Int) (Int.toNat (6 : Int)) (ex k n v d)).k
 (tamP (3 : Int) (Int.toNat (6 : Int)) (ex k n v d)).n
 (tamP (3 : Int) (Int.toNat (6 : Int)) (ex k n v d)).v
 (dE (tamP (3 : Int) (Int.toNat (6 : Int)) (ex k n v d)).kids)).v
 (dE
 (ex (tamP (3 : Int) (Int.toNat (6 : Int)) (ex k n v d)).k
 (tamP (3 : Int) (Int.toNat (6 : Int)) (ex k n v d)).n
 (tamP (3 : Int) (Int.toNat (6 : Int)) (ex k n v d)).v
 (dE (tamP (3 : Int) (Int.toNat (6 : Int)) (ex k n v d)).kids)).kids))).fst.fst ≤
 (evT
 (vD
 ((rowI (3 : Nat) fun (j : Nat) => if c = true then b j else a j).sub (nat_lit 0)
 (nat_lit 0 + nat_lit 3)))
 (ex (tamP (3 : Int) (Int.toNat (6 : Int)) (ex k n v d)).k
 (tamP (3 : Int) (Int.toNat (6 : Int)) (ex k n v d)).n
 (tamP (3 : Int) (Int.toNat (6 : Int)) (ex k n v d)).v
 (dE (tamP (3 : Int) (Int.toNat (6 : Int)) (ex k n v d)).kids))).fst) &&
 decide
 ((evT
 (vD
 ((rowI (3 : Nat) fun (j : Nat) => if c = true then b j else a j).sub (nat_lit 0)
 (nat_lit 0 + nat_lit 3)))
 (ex (tamP (3 : Int) (Int.toNat (6 : Int)) (ex k n v d)).k
 (tamP (3 : Int) (Int.toNat (6 : Int)) (ex k n v d)).n
 (tamP (3 : Int) (Int.toNat (6 : Int)) (ex k n v d)).v
 (dE (tamP (3 : Int) (Int.toNat (6 : Int)) (ex k n v d)).kids))).fst ≤
 (evaP (Int.toNat (3 : Int)) (3 : Int)
 ((jnZ (3 : Int) (rowZ (3 : Int) a (3 : Nat)) (rowZ (3 : Int) b (3 : Nat))).fst,
 (jnZ (3 : Int) (rowZ (3 : Int) a (3 : Nat)) (rowZ (3 : Int) b (3 : Nat))).snd)
 (ex
 (ex (tamP (3 : Int) (Int.toNat (6 : Int)) (ex k n v d)).k
 (tamP (3 : Int) (Int.toNat (6 : Int)) (ex k n v d)).n
 (tamP (3 : Int) (Int.toNat (6 : Int)) (ex k n v d)).v
 (dE (tamP (3 : Int) (Int.toNat (6 : Int)) (ex k n v d)).kids)).k
 (ex (tamP (3 : Int) (Int.toNat (6 : Int)) (ex k n v d)).k
 (tamP (3 : Int) (Int.toNat (6 : Int)) (ex k n v d)).n
 (tamP (3 : Int) (Int.toNat (6 : Int)) (ex k n v d)).v
 (dE (tamP (3 : Int) (Int.toNat (6 : Int)) (ex k n v d)).kids)).n
 (ex (tamP (3 : Int) (Int.toNat (6 : Int)) (ex k n v d)).k
 (tamP (3 : Int) (Int.toNat (6 : Int)) (ex k n v d)).n
 (tamP (3 : Int) (Int.toNat (6 : Int)) (ex k n v d)).v
 (dE (tamP (3 : Int) (Int.toNat (6 : Int)) (ex k n v d)).kids)).v
 (dE
 (ex (tamP (3 : Int) (Int.toNat (6 : Int)) (ex k n v d)).k
 (tamP (3 : Int) (Int.toNat (6 : Int)) (ex k n v d)).n
 (tamP (3 : Int) (Int.toNat (6 : Int)) (ex k n v d)).v
 (dE (tamP (3 : Int) (Int.toNat (6 : Int)) (ex k n v d)).kids)).kids))).fst.snd)) =
 true ∧
 True →
 (itD (Int.toNat (3 : Int)) (3 : Int)
 (asgZ (3 : Int) (IntKind.i64.wrap ((IntKind.u64.wrap x).tmod (3 : Int)))
 (ex
 (ex (tamP (3 : Int) (Int.toNat (6 : Int)) (ex k n v d)).k
 (tamP (3 : Int) (Int.toNat (6 : Int)) (ex k n v d)).n
 (tamP (3 : Int) (Int.toNat (6 : Int)) (ex k n v d)).v
 (dE (tamP (3 : Int) (Int.toNat (6 : Int)) (ex k n v d)).kids)).k
 (ex (tamP (3 : Int) (Int.toNat (6 : Int)) (ex k n v d)).k
 (tamP (3 : Int) (Int.toNat (6 : Int)) (ex k n v d)).n
 (tamP (3 : Int) (Int.toNat (6 : Int)) (ex k n v d)).v
 (dE (tamP (3 : Int) (Int.toNat (6 : Int)) (ex k n v d)).kids)).n
 (ex (tamP (3 : Int) (Int.toNat (6 : Int)) (ex k n v d)).k
 (tamP (3 : Int) (Int.toNat (6 : Int)) (ex k n v d)).n
 (tamP (3 : Int) (Int.toNat (6 : Int)) (ex k n v d)).v
 (dE (tamP (3 : Int) (Int.toNat (6 : Int)) (ex k n v d)).kids)).v
 (dE
 (ex (tamP (3 : Int) (Int.toNat (6 : Int)) (ex k n v d)).k
 (tamP (3 : Int) (Int.toNat (6 : Int)) (ex k n v d)).n
 (tamP (3 : Int) (Int.toNat (6 : Int)) (ex k n v d)).v
 (dE (tamP (3 : Int) (Int.toNat (6 : Int)) (ex k n v d)).kids)).kids))
 ((jnZ (3 : Int) (rowZ (3 : Int) a (3 : Nat)) (rowZ (3 : Int) b (3 : Nat))).fst,
 (jnZ (3 : Int) (rowZ (3 : Int) a (3 : Nat)) (rowZ (3 : Int) b (3 : Nat))).snd))).len ≤
 (1000 : Nat)) ∧
 (decide
 ((evaP (Int.toNat (3 : Int)) (3 : Int)
 ((jnZ (3 : Int) (rowZ (3 : Int) a (3 : Nat)) (rowZ (3 : Int) b (3 : Nat))).fst,
 (jnZ (3 : Int) (rowZ (3 : Int) a (3 : Nat)) (rowZ (3 : Int) b (3 : Nat))).snd)
 (ex
 (ex (tamP (3 : Int) (Int.toNat (6 : Int)) (ex k n v d)).k
 (tamP (3 : Int) (Int.toNat (6 : Int)) (ex k n v d)).n
 (tamP (3 : Int) (Int.toNat (6 : Int)) (ex k n v d)).v
 (dE (tamP (3 : Int) (Int.toNat (6 : Int)) (ex k n v d)).kids)).k
 (ex (tamP (3 : Int) (Int.toNat (6 : Int)) (ex k n v d)).k
 (tamP (3 : Int) (Int.toNat (6 : Int)) (ex k n v d)).n
 (tamP (3 : Int) (Int.toNat (6 : Int)) (ex k n v d)).v
 (dE (tamP (3 : Int) (Int.toNat (6 : Int)) (ex k n v d)).kids)).n
 (ex (tamP (3 : Int) (Int.toNat (6 : Int)) (ex k n v d)).k
 (tamP (3 : Int) (Int.toNat (6 : Int)) (ex k n v d)).n
 (tamP (3 : Int) (Int.toNat (6 : Int)) (ex k n v d)).v
 (dE (tamP (3 : Int) (Int.toNat (6 : Int)) (ex k n v d)).kids)).v
 (dE
 (ex (tamP (3 : Int) (Int.toNat (6 : Int)) (ex k n v d)).k
 (tamP (3 : Int) (Int.toNat (6 : Int)) (ex k n v d)).n
 (tamP (3 : Int) (Int.toNat (6 : Int)) (ex k n v d)).v
 (dE (tamP (3 : Int) (Int.toNat (6 : Int)) (ex k n v d)).kids)).kids))).fst.fst ≤
 (evT
 (vD
 ((rowI (3 : Nat) fun (j : Nat) => if c = true then b j else a j).sub (nat_lit 0)
 (nat_lit 0 + nat_lit 3)))
 (ex (tamP (3 : Int) (Int.toNat (6 : Int)) (ex k n v d)).k
 (tamP (3 : Int) (Int.toNat (6 : Int)) (ex k n v d)).n
 (tamP (3 : Int) (Int.toNat (6 : Int)) (ex k n v d)).v
 (dE (tamP (3 : Int) (Int.toNat (6 : Int)) (ex k n v d)).kids))).fst) &&
 decide
 ((evT
 (vD
 ((rowI (3 : Nat) fun (j : Nat) => if c = true then b j else a j).sub (nat_lit 0)
 (nat_lit 0 + nat_lit 3)))
 (ex (tamP (3 : Int) (Int.toNat (6 : Int)) (ex k n v d)).k
 (tamP (3 : Int) (Int.toNat (6 : Int)) (ex k n v d)).n
 (tamP (3 : Int) (Int.toNat (6 : Int)) (ex k n v d)).v
 (dE (tamP (3 : Int) (Int.toNat (6 : Int)) (ex k n v d)).kids))).fst ≤
 (evaP (Int.toNat (3 : Int)) (3 : Int)
 ((jnZ (3 : Int) (rowZ (3 : Int) a (3 : Nat)) (rowZ (3 : Int) b (3 : Nat))).fst,
 (jnZ (3 : Int) (rowZ (3 : Int) a (3 : Nat)) (rowZ (3 : Int) b (3 : Nat))).snd)
 (ex
 (ex (tamP (3 : Int) (Int.toNat (6 : Int)) (ex k n v d)).k
 (tamP (3 : Int) (Int.toNat (6 : Int)) (ex k n v d)).n
 (tamP (3 : Int) (Int.toNat (6 : Int)) (ex k n v d)).v
 (dE (tamP (3 : Int) (Int.toNat (6 : Int)) (ex k n v d)).kids)).k
 (ex (tamP (3 : Int) (Int.toNat (6 : Int)) (ex k n v d)).k
 (tamP (3 : Int) (Int.toNat (6 : Int)) (ex k n v d)).n
 (tamP (3 : Int) (Int.toNat (6 : Int)) (ex k n v d)).v
 (dE (tamP (3 : Int) (Int.toNat (6 : Int)) (ex k n v d)).kids)).n
 (ex (tamP (3 : Int) (Int.toNat (6 : Int)) (ex k n v d)).k
 (tamP (3 : Int) (Int.toNat (6 : Int)) (ex k n v d)).n
 (tamP (3 : Int) (Int.toNat (6 : Int)) (ex k n v d)).v
 (dE (tamP (3 : Int) (Int.toNat (6 : Int)) (ex k n v d)).kids)).v
 (dE
 (ex (tamP (3 : Int) (Int.toNat (6 : Int)) (ex k n v d)).k
 (tamP (3 : Int) (Int.toNat (6 : Int)) (ex k n v d)).n
 (tamP (3 : Int) (Int.toNat (6 : Int)) (ex k n v d)).v
 (dE (tamP (3 : Int) (Int.toNat (6 : Int)) (ex k n v d)).kids)).kids))).fst.snd) &&
 nhasP
 (asgZ (3 : Int) (IntKind.i64.wrap ((IntKind.u64.wrap x).tmod (3 : Int)))
 (ex
 (ex (tamP (3 : Int) (Int.toNat (6 : Int)) (ex k n v d)).k
 (tamP (3 : Int) (Int.toNat (6 : Int)) (ex k n v d)).n
 (tamP (3 : Int) (Int.toNat (6 : Int)) (ex k n v d)).v
 (dE (tamP (3 : Int) (Int.toNat (6 : Int)) (ex k n v d)).kids)).k
 (ex (tamP (3 : Int) (Int.toNat (6 : Int)) (ex k n v d)).k
 (tamP (3 : Int) (Int.toNat (6 : Int)) (ex k n v d)).n
 (tamP (3 : Int) (Int.toNat (6 : Int)) (ex k n v d)).v
 (dE (tamP (3 : Int) (Int.toNat (6 : Int)) (ex k n v d)).kids)).n
 (ex (tamP (3 : Int) (Int.toNat (6 : Int)) (ex k n v d)).k
 (tamP (3 : Int) (Int.toNat (6 : Int)) (ex k n v d)).n
 (tamP (3 : Int) (Int.toNat (6 : Int)) (ex k n v d)).v
 (dE (tamP (3 : Int) (Int.toNat (6 : Int)) (ex k n v d)).kids)).v
 (dE
 (ex (tamP (3 : Int) (Int.toNat (6 : Int)) (ex k n v d)).k
 (tamP (3 : Int) (Int.toNat (6 : Int)) (ex k n v d)).n
 (tamP (3 : Int) (Int.toNat (6 : Int)) (ex k n v d)).v
 (dE (tamP (3 : Int) (Int.toNat (6 : Int)) (ex k n v d)).kids)).kids))
 ((jnZ (3 : Int) (rowZ (3 : Int) a (3 : Nat)) (rowZ (3 : Int) b (3 : Nat))).fst,
 (jnZ (3 : Int) (rowZ (3 : Int) a (3 : Nat)) (rowZ (3 : Int) b (3 : Nat))).snd)).fst
 (itD (Int.toNat (3 : Int)) (3 : Int)
 (asgZ (3 : Int) (IntKind.i64.wrap ((IntKind.u64.wrap x).tmod (3 : Int)))
 (ex
 (ex (tamP (3 : Int) (Int.toNat (6 : Int)) (ex k n v d)).k
 (tamP (3 : Int) (Int.toNat (6 : Int)) (ex k n v d)).n
 (tamP (3 : Int) (Int.toNat (6 : Int)) (ex k n v d)).v
 (dE (tamP (3 : Int) (Int.toNat (6 : Int)) (ex k n v d)).kids)).k
 (ex (tamP (3 : Int) (Int.toNat (6 : Int)) (ex k n v d)).k
 (tamP (3 : Int) (Int.toNat (6 : Int)) (ex k n v d)).n
 (tamP (3 : Int) (Int.toNat (6 : Int)) (ex k n v d)).v
 (dE (tamP (3 : Int) (Int.toNat (6 : Int)) (ex k n v d)).kids)).n
 (ex (tamP (3 : Int) (Int.toNat (6 : Int)) (ex k n v d)).k
 (tamP (3 : Int) (Int.toNat (6 : Int)) (ex k n v d)).n
 (tamP (3 : Int) (Int.toNat (6 : Int)) (ex k n v d)).v
 (dE (tamP (3 : Int) (Int.toNat (6 : Int)) (ex k n v d)).kids)).v
 (dE
 (ex (tamP (3 : Int) (Int.toNat (6 : Int)) (ex k n v d)).k
 (tamP (3 : Int) (Int.toNat (6 : Int)) (ex k n v d)).n
 (tamP (3 : Int) (Int.toNat (6 : Int)) (ex k n v d)).v
 (dE (tamP (3 : Int) (Int.toNat (6 : Int)) (ex k n v d)).kids)).kids))
 ((jnZ (3 : Int) (rowZ (3 : Int) a (3 : Nat)) (rowZ (3 : Int) b (3 : Nat))).fst,
 (jnZ (3 : Int) (rowZ (3 : Int) a (3 : Nat)) (rowZ (3 : Int) b (3 : Nat))).snd)))
 (3 : Int)
 (asgZ (3 : Int) (IntKind.i64.wrap ((IntKind.u64.wrap x).tmod (3 : Int)))
 (ex
 (ex (tamP (3 : Int) (Int.toNat (6 : Int)) (ex k n v d)).k
 (tamP (3 : Int) (Int.toNat (6 : Int)) (ex k n v d)).n
 (tamP (3 : Int) (Int.toNat (6 : Int)) (ex k n v d)).v
 (dE (tamP (3 : Int) (Int.toNat (6 : Int)) (ex k n v d)).kids)).k
 (ex (tamP (3 : Int) (Int.toNat (6 : Int)) (ex k n v d)).k
 (tamP (3 : Int) (Int.toNat (6 : Int)) (ex k n v d)).n
 (tamP (3 : Int) (Int.toNat (6 : Int)) (ex k n v d)).v
 (dE (tamP (3 : Int) (Int.toNat (6 : Int)) (ex k n v d)).kids)).n
 (ex (tamP (3 : Int) (Int.toNat (6 : Int)) (ex k n v d)).k
 (tamP (3 : Int) (Int.toNat (6 : Int)) (ex k n v d)).n
 (tamP (3 : Int) (Int.toNat (6 : Int)) (ex k n v d)).v
 (dE (tamP (3 : Int) (Int.toNat (6 : Int)) (ex k n v d)).kids)).v
 (dE
 (ex (tamP (3 : Int) (Int.toNat (6 : Int)) (ex k n v d)).k
 (tamP (3 : Int) (Int.toNat (6 : Int)) (ex k n v d)).n
 (tamP (3 : Int) (Int.toNat (6 : Int)) (ex k n v d)).v
 (dE (tamP (3 : Int) (Int.toNat (6 : Int)) (ex k n v d)).kids)).kids))
 ((jnZ (3 : Int) (rowZ (3 : Int) a (3 : Nat)) (rowZ (3 : Int) b (3 : Nat))).fst,
 (jnZ (3 : Int) (rowZ (3 : Int) a (3 : Nat)) (rowZ (3 : Int) b (3 : Nat))).snd)).fst
 (asgZ (3 : Int) (IntKind.i64.wrap ((IntKind.u64.wrap x).tmod (3 : Int)))
 (ex
 (ex (tamP (3 : Int) (Int.toNat (6 : Int)) (ex k n v d)).k
 (tamP (3 : Int) (Int.toNat (6 : Int)) (ex k n v d)).n
 (tamP (3 : Int) (Int.toNat (6 : Int)) (ex k n v d)).v
 (dE (tamP (3 : Int) (Int.toNat (6 : Int)) (ex k n v d)).kids)).k
 (ex (tamP (3 : Int) (Int.toNat (6 : Int)) (ex k n v d)).k
 (tamP (3 : Int) (Int.toNat (6 : Int)) (ex k n v d)).n
 (tamP (3 : Int) (Int.toNat (6 : Int)) (ex k n v d)).v
 (dE (tamP (3 : Int) (Int.toNat (6 : Int)) (ex k n v d)).kids)).n
 (ex (tamP (3 : Int) (Int.toNat (6 : Int)) (ex k n v d)).k
 (tamP (3 : Int) (Int.toNat (6 : Int)) (ex k n v d)).n
 (tamP (3 : Int) (Int.toNat (6 : Int)) (ex k n v d)).v
 (dE (tamP (3 : Int) (Int.toNat (6 : Int)) (ex k n v d)).kids)).v
 (dE
 (ex (tamP (3 : Int) (Int.toNat (6 : Int)) (ex k n v d)).k
 (tamP (3 : Int) (Int.toNat (6 : Int)) (ex k n v d)).n
 (tamP (3 : Int) (Int.toNat (6 : Int)) (ex k n v d)).v
 (dE (tamP (3 : Int) (Int.toNat (6 : Int)) (ex k n v d)).kids)).kids))
 ((jnZ (3 : Int) (rowZ (3 : Int) a (3 : Nat)) (rowZ (3 : Int) b (3 : Nat))).fst,
 (jnZ (3 : Int) (rowZ (3 : Int) a (3 : Nat)) (rowZ (3 : Int) b (3 : Nat))).snd)).snd
 ((((D.l []).app
 ((rowI (3 : Nat) fun (j : Nat) => if c = true then b j else a j).sub (nat_lit 0)
 (nat_lit 0 + nat_lit 3))).setc
 [K.int IntKind.i64].length (IntKind.i64.wrap ((IntKind.u64.wrap x).tmod (3 : Int))).toNat
 (0 : Nat)
 [D.i
 (evT
 (vD
 ((rowI (3 : Nat) fun (j : Nat) => if c = true then b j else a j).sub (nat_lit 0)
 (nat_lit 0 + nat_lit 3)))
 (ex (tamP (3 : Int) (Int.toNat (6 : Int)) (ex k n v d)).k
 (tamP (3 : Int) (Int.toNat (6 : Int)) (ex k n v d)).n
 (tamP (3 : Int) (Int.toNat (6 : Int)) (ex k n v d)).v
 (dE (tamP (3 : Int) (Int.toNat (6 : Int)) (ex k n v d)).kids))).fst]).sub
 (nat_lit 0) (nat_lit 0 + nat_lit 3))) =
 true))) (by kernel_rfl) ?_
    intro hab
    simp only [ex_of]
    have t := tam_tm (w := 3) (by omega) (Int.toNat 6) (ex k n v d)
    have hT := tm_small t
    obtain ⟨gz, pz⟩ := two_rows hab c
    have hI : InV 3 (gI (hz fun j => if c = true then b j else a j)) := hz_in fun j hj => by
      have := hab j hj
      split
      · exact this.2
      · exact this.1
    have hX := modU3 x
    rw [row_hz, vD_row]
    have hl : (rowI 3 (fun j => if c = true then b j else a j)).len = 3 := rfl
    have hl2 : (rowI 3 (hz fun j => if c = true then b j else a j)).len = 3 := rfl
    simp only [hl, hl2]
    generalize jnZ 3 (rowZ 3 a 3) (rowZ 3 b 3) = z at *
    generalize tamP 3 (Int.toNat 6) (ex k n v d) = e at *
    generalize IntKind.i64.wrap ((IntKind.u64.wrap x).tmod 3) = X at *
    generalize (hz fun j => if c = true then b j else a j) = h at *
    have sn := eva_snd gz (by omega) hI t pz
    have ap := asg_pt gz (by omega) hI t pz hX
    have ga := good_asg (x := X) (e := e) gz
    have nz := nhas_pt gz pz (v := rowI 3 h) rfl
    have er : evaP (Int.toNat 3) 3 (z.1, z.2) e = recP (itD (Int.toNat 3) 3 z) e := by unfold evaP; rw [if_neg (by rw [pz.1]; simp)]
    have en := ev_in hI t
    have ri := itD_right ga
    rw [er]
    generalize recP (itD (Int.toNat 3) 3 z) e = r at *
    generalize evT (gI h) e = s at *
    have e33 : Int.toNat 3 = 3 := rfl
    have ea : asgZ 3 X e (z.1, z.2) = asgZ 3 X e z := rfl
    rw [ea] at *
    generalize asgZ 3 X e z = y at *
    simp only [e33] at *
    refine ⟨by omega, by omega, hab, Nat.le_refl _, t, hI, hT, numOK_of gz, hT, numOK_of gz, fun _ => Nat.le_refl _, fun _ => by rw [itD_len]; omega, fun _ => ga.sm, fun _ => by rw [itD_len]; omega, fun q => ?_, fun _ => ⟨fun _ => trivial, fun q => ?_⟩⟩
    · exfalso
      rw [nz, ri] at q
      have q : s.2 = 2 ∧ r.2.1 = false ∨ s.2 = 3 ∧ r.2.2 = false := by simpa using q
      rcases q with ⟨q1, q2⟩ | ⟨q1, q2⟩
      · rw [sn.2.1 q1] at q2; cases q2
      · rw [sn.2.2 q1] at q2; cases q2
    · have q : s.2 = 0 := by simpa using q
      have rn := sn.1 q
      have p := ap q
      have hX3 : X = 0 ∨ X = 1 ∨ X = 2 := by omega
      have hrow : ((((D.l []).app (rowI 3 h)).setc [K.int IntKind.i64].length X.toNat 0 [D.i s.1]).sub 0 (0 + 3)).rows = (rowI 3 (upd h X.toNat s.1)).rows := by
        rcases hX3 with rfl | rfl | rfl <;> rfl
      have hlen : 0 + 3 ≤ (((D.l []).app (rowI 3 h)).setc [K.int IntKind.i64].length X.toNat 0 [D.i s.1]).len := by
        rcases hX3 with rfl | rfl | rfl <;> exact Nat.le_refl 3
      have hv : upd (vz h) (X + 1).toNat s.1 = vz (upd h X.toNat s.1) := by
        rw [vz_upd _ (by omega)]
        congr 2; omega
      rw [hv] at p
      have nh := nhas_pt ga p hrow
      refine ⟨rfl, by omega, Nat.le_refl _, ⟨hX.1, hX.2⟩, (show X.toNat < 3 by omega), fun _ => hlen, fun _ => by rw [itD_len]; omega, ?_⟩
      rw [show nhasP y.1 (itD 3 3 y) 3 y.1 y.2 ((((D.l []).app (rowI 3 h)).setc [K.int IntKind.i64].length X.toNat 0 [D.i s.1]).sub 0 (0 + 3)) = true from nh]
      simp; omega
  · trivial
end Go.Proofs.Ytbcbcambkjhhhaa.Sx.Z
