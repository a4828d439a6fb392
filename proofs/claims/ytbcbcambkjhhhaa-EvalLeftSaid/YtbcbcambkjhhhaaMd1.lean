/-
  EvalHas' contract.
-/
import Derived.Test.YtbcbcambkjhhhaaProg
import Derived.Test.YtbcbcambkjhhhaaChecked
import Derived.Laws.Bits64
import Derived.ChangeArms
import Derived.OpenShut
import Derived.WideShapes
import Derived.ChangeShapes
import Derived.Carry
import Derived.DataReads
import Derived.KernelRfl
import Derived.Deep.LoopGhost
import Derived.Laws.Append
import Derived.Laws.AppendOwn
import Derived.Laws.MakeOwn
import Derived.Laws.StructEq
import Derived.Laws.Cells
import Derived.Laws.CopyRow
import Derived.Laws.Rows
import Derived.Below
import Derived.Orders
import Derived.ChangeKeysEq
import Derived.IntWalk
import Derived.Deep.CutRange
import Derived.WalkKit
import Derived.ProofKit
import Derived.Handy
import Derived.Lib.Hide
import Derived.Deep.WholeRow
import Derived.Deep.Cut
import Derived.Deep.RegionHeld3
import Derived.RegionTactic
import Derived.Test.YtbcbcambkjhhhaaMA
import Derived.Test.YtbcbcambkjhhhaaMB
import Derived.Test.YtbcbcambkjhhhaaMC
import Derived.Test.YtbcbcambkjhhhaaMD
import Derived.Test.YtbcbcambkjhhhaaME
import Derived.Test.YtbcbcambkjhhhaaMF
import Derived.Test.YtbcbcambkjhhhaaMG
import Derived.Test.YtbcbcambkjhhhaaMH
import Derived.Test.YtbcbcambkjhhhaaMI
import Derived.Test.YtbcbcambkjhhhaaMJ
import Derived.Test.YtbcbcambkjhhhaaMK
import Derived.Test.YtbcbcambkjhhhaaML
import Derived.Test.YtbcbcambkjhhhaaMM
import Derived.Test.YtbcbcambkjhhhaaMj1
import Derived.Test.YtbcbcambkjhhhaaMP
import Derived.Test.YtbcbcambkjhhhaaMW
import Derived.Test.YtbcbcambkjhhhaaMZ
import Derived.Test.YtbcbcambkjhhhaaMb1
import Derived.Test.YtbcbcambkjhhhaaMc1
namespace Go.Proofs.Ytbcbcambkjhhhaa.Sx.Z
open Go.RowKit
theorem dok_i32 {d : D} (h : DOk (.int .i32) d) : -2147483648 ≤ d.toI ∧ d.toI ≤ 2147483647 := by
  cases h with
  | int k d h => simp [Lit.wf, IntKind.min, IntKind.max, IntKind.bits, IntKind.signed] at h; omega
def hz (H : Nat → Int) : Nat → Int := fun q => if q < 3 then H q else 0
theorem vD_row (H : Nat → Int) : vD (rowI 3 (hz H)) = gI (hz H) := by
  funext v
  unfold vD gI
  by_cases h : v.toNat < 3
  · exact rowI_el h _
  · have : (rowI 3 (hz H)).el v.toNat 0 = .i 0 := by
      unfold D.el
      rw [List.getD_eq_getElem?_getD (l := (rowI 3 (hz H)).rows), List.getElem?_eq_none (by show ((List.range 3).map _).length ≤ _; simp; omega)]
      rfl
    rw [this]
    unfold hz
    rw [if_neg h]; rfl
theorem hz_in {H : Nat → Int} (hH : ∀ j, j < 3 → -2147483648 ≤ H j ∧ H j ≤ 2147483647) : InV 3 (gI (hz H)) := fun v h0 h1 => by
  unfold gI hz
  rw [if_pos (by omega)]
  exact hH _ (by omega)
theorem pt_jnl {n : Int} {a b : Zs} {p : Nat → Int} (ha : Pt n a p) (hb : b.1 = false) : Pt n (jnZ n a b) p := by
  obtain ⟨j1, j2⟩ := jn_both (n := n) hb ha.1
  exact ⟨j1, ha.2.1, fun i j hi hj => by rw [j2 i j hi hj]; have := ha.2.2 i j hi hj; omega⟩
theorem pt_jnr {n : Int} {a b : Zs} {p : Nat → Int} (hb : Pt n b p) (ha : a.1 = false) : Pt n (jnZ n a b) p := by
  obtain ⟨j1, j2⟩ := jn_both (n := n) hb.1 ha
  exact ⟨j1, hb.2.1, fun i j hi hj => by rw [j2 i j hi hj]; have := hb.2.2 i j hi hj; omega⟩
theorem vz_hz (H : Nat → Int) {i : Nat} (hi : i < R 3) : vz H i = vz (hz H) i := by
  have : (R 3 : Int) = 4 := by rw [(R_le 3).2.2, rows_n (by omega)]; rfl
  unfold vz hz
  split
  · rfl
  · rw [if_pos (by omega)]
/-- Two rows of three numbers, and the one that is looked at. -/
theorem two_rows {a b : Nat → Int} (hab : ∀ j, j < 3 → (-2147483648 ≤ a j ∧ a j ≤ 2147483647) ∧ (-2147483648 ≤ b j ∧ b j ≤ 2147483647)) (c : Bool) : Good 3 (jnZ 3 (rowZ 3 a 3) (rowZ 3 b 3)) ∧ Pt 3 (jnZ 3 (rowZ 3 a 3) (rowZ 3 b 3)) (vz (hz fun j => if c = true then b j else a j)) := by
  have sa := row_all (n := 3) (by omega) (g := a) (fun i hi => (hab i (by omega)).1)
  have sb := row_all (n := 3) (by omega) (g := b) (fun i hi => (hab i (by omega)).2)
  refine ⟨good_jn sa.1 sb.1, pt_congr (fun i hi => vz_hz _ hi) ?_⟩
  cases c with
  | false => exact pt_jnl sa.2.1 sb.2.1.1
  | true => exact pt_jnr sb.2.1 sa.2.1.1
end Go.Proofs.Ytbcbcambkjhhhaa.Sx.Z
