/-
  What the reference's rounds come to: the least bounds of the same numbers.
-/
import Derived.Test.YtbcbcambkjhhhaaProg
import Derived.IntWalk
import Derived.ChangeArms
import Derived.OpenShut
import Derived.WideShapes
import Derived.ChangeShapes
import Derived.Carry
import Derived.DataReads
import Derived.KernelRfl
import Derived.Deep.LoopGhost
import Derived.Laws.Append
import Derived.Laws.AppendOwn
import Derived.Laws.MakeOwn
import Derived.Laws.StructEq
import Derived.Laws.Cells
import Derived.Laws.CopyRow
import Derived.Laws.Rows
import Derived.Below
import Derived.Orders
import Derived.ChangeKeysEq
import Derived.Laws.Bits64
import Derived.Test.YtbcbcambkjhhhaaMA
import Derived.Test.YtbcbcambkjhhhaaMB
import Derived.Test.YtbcbcambkjhhhaaMC
import Derived.Test.YtbcbcambkjhhhaaMD
import Derived.Test.YtbcbcambkjhhhaaME
import Derived.Test.YtbcbcambkjhhhaaMF
import Derived.Test.YtbcbcambkjhhhaaMG
import Derived.Test.YtbcbcambkjhhhaaMH
import Derived.Test.YtbcbcambkjhhhaaMI
import Derived.Test.YtbcbcambkjhhhaaMJ
import Derived.Test.YtbcbcambkjhhhaaMK
import Derived.Test.YtbcbcambkjhhhaaML
import Derived.Test.YtbcbcambkjhhhaaMM
import Derived.Test.YtbcbcambkjhhhaaMj1
import Derived.Test.YtbcbcambkjhhhaaMN
import Derived.Test.YtbcbcambkjhhhaaMO
import Derived.Test.YtbcbcambkjhhhaaMP
namespace Go.Proofs.Ytbcbcambkjhhhaa.Sx.Z
open Go.RowKit
/-- Nothing comes below closed bounds. -/
structure Under (C : Nat → Int) (r : Nat) (f : Nat → Int) : Prop where
  le : ∀ i j, i < r → j < r → C (i * 7 + j) ≤ f (i * 7 + j)
section
variable {C : Nat → Int} {r : Nat} (hl : ∀ i j, i < r → j < r → -35184372088832 ≤ C (i * 7 + j)) (ht : ∀ i j k, i < r → j < r → k < r → tri C i j k)
include hl ht
end
end Go.Proofs.Ytbcbcambkjhhhaa.Sx.Z
namespace Go.Proofs.Ytbcbcambkjhhhaa.Sx.Z
open Go.RowKit
def Same (z w : Zs) : Prop := z.1 = w.1 ∧ ∀ o, o < 49 → z.2 o = w.2 o
theorem Same.sy {x y : Zs} (h : Same x y) : Same y x := ⟨h.1.symm, fun o ho => (h.2 o ho).symm⟩
section
variable {n : Int} {f G : Nat → Int}
end
end Go.Proofs.Ytbcbcambkjhhhaa.Sx.Z
namespace Go.Proofs.Ytbcbcambkjhhhaa.Sx.Z
open Go.RowKit
theorem cp2_mono {n : Int} {z : Zs} (h : Good n z) {y b : Int} (hy : isEndP n y = true) (hc : (cp2 n y b z).1 = false) {i j : Nat} (hi : i < R n) (hj : j < R n) : (cp2 n y b z).2 (i * 7 + j) ≤ z.2 (i * 7 + j) :=
  Int.le_trans (bnd_mono (good_bnd h _ _ _) (isEnd_nought n) hy hc hi hj) (bnd_mono h hy (isEnd_nought n) (bnd_some hc) hi hj)
section
variable {n : Int} {f G : Nat → Int}
end
end Go.Proofs.Ytbcbcambkjhhhaa.Sx.Z
namespace Go.Proofs.Ytbcbcambkjhhhaa.Sx.Z
open Go.RowKit
theorem isVar_of {n x : Int} (hn : 0 ≤ n ∧ n ≤ 6) (h : 0 ≤ x ∧ x < n) : isVarP n x = true := by
  unfold isVarP; rw [rows_n hn]; simp only [Bool.and_eq_true, decide_eq_true_eq]; omega
theorem isEnd_of {n x : Int} (hn : 0 ≤ n ∧ n ≤ 6) (h : -1 ≤ x ∧ x < n) : isEndP n x = true := by
  unfold isEndP isVarP; rw [rows_n hn]; simp only [Bool.or_eq_true, Bool.and_eq_true, decide_eq_true_eq, beq_iff_eq]; omega
theorem fg_false {n x : Int} {z : Zs} (h : z.1 = false) (hx : isVarP n x = true) : fgZ n x z = (false, fgTo z.2 (x + 1).toNat (R n)) := by
  obtain ⟨c, f⟩ := z
  dsimp only at h
  subst h
  refine Prod.ext rfl (funext fun o => ?_)
  show forgetF n false f x o = _
  unfold forgetF; rw [if_neg (by rw [hx]; simp)]; rfl
theorem itv_exact {n x : Int} {z : Zs} (g : Good n z) (h : z.1 = false) (hx : isVarP n x = true) : itvLo n z.1 z.2 x = 0 - z.2 (x + 1).toNat ∧ itvHi n z.1 z.2 x = z.2 ((x + 1).toNat * 7) := by
  obtain ⟨ha, hax, ha1⟩ := isVar_R hx
  have hR := R_le n
  have h0 := g.hi0 _ ha
  have h1 := g.hi1 _ ha
  have t := g.tri 0 0 (x + 1).toNat (by omega) (by omega) ha
  have d := g.diag 0 (by omega)
  unfold Z.tri at t
  rw [Nat.zero_mul, Nat.add_zero, Nat.zero_add, Nat.add_zero] at t
  rw [Nat.zero_mul, Nat.zero_add] at d
  unfold itvLo itvHi
  rw [h, hx, if_neg (by simp), if_neg (by simp)]
  unfold ofLo ofHi
  rw [if_neg (by omega), if_neg (by omega)]
  exact ⟨by omega, by omega⟩
end Go.Proofs.Ytbcbcambkjhhhaa.Sx.Z
namespace Go.Proofs.Ytbcbcambkjhhhaa.Sx.Z
open Go.RowKit
/-- All of the first one is in the second one. -/
def Wi (n : Int) (z w : Zs) : Prop := z.1 = true ∨ (w.1 = false ∧ z.1 = false ∧ ∀ i j, i < R n → j < R n → z.2 (i * 7 + j) ≤ w.2 (i * 7 + j))
theorem wi_iff {n : Int} {z w : Zs} : withinP n z.1 z.2 n w.1 w.2 = true ↔ Wi n z w := by
  have hR := R_le n
  unfold withinP Wi
  cases hz : z.1 with
  | true => simp
  | false =>
    cases hw : w.1 with
    | true => simp
    | false =>
      rw [if_neg (by simp), allB_iff]
      constructor
      · intro h
        refine .inr ⟨rfl, rfl, fun i j hi hj => ?_⟩
        have h7 := dm7 (k := i) (m := j) (by omega)
        exact of_decide_eq_true (h (i * 7 + j) (by omega) (by rw [h7.1, h7.2]; exact ⟨hi, hj⟩))
      · rintro (h | ⟨_, _, h⟩)
        · cases h
        · intro o ho hr
          have := h (o / 7) (o % 7) hr.1 hr.2
          rw [show o / 7 * 7 + o % 7 = o by omega] at this
          exact decide_eq_true this
def jnZ (n : Int) (a b : Zs) : Zs := (jnC n a.1 n b.1, jnF n a.1 a.2 n b.1 b.2)
theorem jn_none {n : Int} {a b : Zs} (h : b.1 = true) : jnZ n a b = a := by
  unfold jnZ jnC jnF
  rw [h]
  refine Prod.ext (if_pos (by simp)) (funext fun o => if_pos (by simp))
theorem jn_nought {n : Int} {a b : Zs} (h : b.1 = false) (k : a.1 = true) : jnZ n a b = b := by
  unfold jnZ jnC jnF
  rw [h, k]
  refine Prod.ext ?_ (funext fun o => ?_)
  · exact (if_neg (by simp)).trans ((if_pos rfl).trans h.symm)
  · exact (if_neg (by simp)).trans (if_pos rfl)
theorem jn_both {n : Int} {a b : Zs} (h : b.1 = false) (k : a.1 = false) : (jnZ n a b).1 = false ∧ ∀ i j, i < R n → j < R n → (jnZ n a b).2 (i * 7 + j) = max (a.2 (i * 7 + j)) (b.2 (i * 7 + j)) := by
  have hR := R_le n
  unfold jnZ jnC jnF
  rw [h, k]
  refine ⟨(if_neg (by simp)).trans (if_neg (by simp)), fun i j hi hj => ?_⟩
  have h7 := dm7 (k := i) (m := j) (by omega)
  refine (if_neg (by simp)).trans ((if_neg (by simp)).trans ?_)
  show jnTo a.2 b.2 (R n) (R n) 0 (i * 7 + j) = _
  unfold jnTo
  rw [h7.1, h7.2, if_pos ⟨.inl hi, hj⟩]
theorem jn_out {n : Int} {a b : Zs} (h : b.1 = false) (k : a.1 = false) {o : Nat} (ho : ¬ (o / 7 < R n ∧ o % 7 < R n)) : (jnZ n a b).2 o = a.2 o := by
  have hR := R_le n
  unfold jnZ jnF
  rw [h, k]
  refine (if_neg (by simp)).trans ((if_neg (by simp)).trans ?_)
  show jnTo a.2 b.2 (R n) (R n) 0 o = _
  unfold jnTo
  rw [if_neg (by omega)]
theorem good_jn {n : Int} {a b : Zs} (ga : Good n a) (gb : Good n b) : Good n (jnZ n a b) := by
  have hR := R_le n
  cases hb : b.1 with
  | true => rw [jn_none hb]; exact ga
  | false =>
    cases ha : a.1 with
    | true => rw [jn_nought hb ha]; exact gb
    | false =>
      obtain ⟨e1, e2⟩ := jn_both (n := n) hb ha
      refine ⟨ga.n0, fun i j hi hj ho => ?_, fun i hi => ?_, fun i j k hi hj hk => ?_, fun i hi => ?_, fun i hi => ?_, fun h => by rw [e1] at h; cases h⟩
      · have h7 := dm7 (k := i) (m := j) hj
        rw [jn_out hb ha (by rw [h7.1, h7.2]; omega)]
        exact ga.out i j hi hj ho
      · rw [e2 i i hi hi, ga.diag i hi, gb.diag i hi]; rfl
      · unfold Z.tri
        rw [e2 i j hi hj, e2 i k hi hk, e2 k j hk hj]
        have t1 := ga.tri i j k hi hj hk
        have t2 := gb.tri i j k hi hj hk
        unfold Z.tri at t1 t2
        omega
      · have := e2 i 0 hi (by omega)
        rw [Nat.add_zero] at this
        rw [this]
        have := ga.hi0 i hi
        have := gb.hi0 i hi
        omega
      · have := e2 0 i (by omega) hi
        rw [Nat.zero_mul, Nat.zero_add] at this
        rw [this]
        have := ga.hi1 i hi
        have := gb.hi1 i hi
        omega
/-! ### Widening -/
end Go.Proofs.Ytbcbcambkjhhhaa.Sx.Z
