/-
  What TransErrors wants besides.
-/
import Derived.Orders
import Derived.Below
import Derived.ChangeKeysEq
import Derived.Laws.Cells
import Derived.Laws.CopyRow
import Derived.Laws.Rows
import Derived.Laws.StructEq
import Derived.Laws.Append
import Derived.Laws.AppendOwn
import Derived.Laws.MakeOwn
import Derived.Deep.LoopGhost
import Derived.KernelRfl
import Derived.ChangeArms
import Derived.OpenShut
import Derived.WideShapes
import Derived.ChangeShapes
import Derived.Carry
import Derived.DataReads
import Derived.Test.YtlgmofjjjhbgkaaGreatProg
import Derived.IntWalk
import Derived.Laws.Bits64
import Derived.Test.YtlgmofjjjhbgkaaGreatChecked
import Derived.WalkKit
import Derived.Lib.LazyBuf
import Derived.ProofKit
import Derived.Handy
import Derived.Lib.Hide
import Derived.Deep.WholeRow
import Derived.Deep.Cut
import Derived.Deep.RegionHeld3
import Derived.Deep.CutRange
import Derived.RegionTactic
import Derived.Deep.AppendLies
import Derived.Laws.OwnMore
import Derived.Maps.AppendAt
import Derived.Deep.RegionLaw
import Derived.Outline
import Derived.Laws.CopyOwn
import Derived.Test.YtlgmofjjjhbgkaaGreatM1
import Derived.Test.YtlgmofjjjhbgkaaGreatM2
import Derived.Test.YtlgmofjjjhbgkaaGreatM3
import Derived.Test.YtlgmofjjjhbgkaaGreatM4
import Derived.Test.YtlgmofjjjhbgkaaGreatM5
import Derived.Test.YtlgmofjjjhbgkaaGreatM6
import Derived.Test.YtlgmofjjjhbgkaaGreatM7
import Derived.Test.YtlgmofjjjhbgkaaGreatM8
import Derived.Test.YtlgmofjjjhbgkaaGreatM9
import Derived.Test.YtlgmofjjjhbgkaaGreatM10
import Derived.Test.YtlgmofjjjhbgkaaGreatM11
import Derived.Test.YtlgmofjjjhbgkaaGreatM12
import Derived.Test.YtlgmofjjjhbgkaaGreatM13
import Derived.Test.YtlgmofjjjhbgkaaGreatM14
import Derived.Test.YtlgmofjjjhbgkaaGreatM15
import Derived.Test.YtlgmofjjjhbgkaaGreatM16
import Derived.Test.YtlgmofjjjhbgkaaGreatM17
import Derived.Test.YtlgmofjjjhbgkaaGreatM18
import Derived.Test.YtlgmofjjjhbgkaaGreatM19
import Derived.Test.YtlgmofjjjhbgkaaGreatM20
import Derived.Test.YtlgmofjjjhbgkaaGreatM21
import Derived.Test.YtlgmofjjjhbgkaaGreatM22
import Derived.Test.YtlgmofjjjhbgkaaGreatM23
import Derived.Test.YtlgmofjjjhbgkaaGreatM24
namespace Go.Proofs.YtlgmofjjjhbgkaaGreat.Sx.Z
open Go.RowKit
def ihasS : FSpec := fun ds _ => match ds with
  | [.i a, .i b, .i n] => some { val := .one (.sc (.bool (.sym (decide (a ≤ n) && decide (n ≤ b))))), vc := [] }
  | _ => none
def ihasC : Con := con [itvA, iA] ihasS
theorem ihas_ok : ConOK Tryz.prog 34 ihasC := by
  refine fn_ob tt_ok mixed Tryz.func34 rfl (fun _ _ => by kernel_rfl) (A := fun ds => ⟨fun _ => Cons.of [], fun _ => none, fun _ => none⟩) (fun _ _ => cons_nil) (by kernel_rfl) ?_
  intro ds fr
  unfold ihasS
  split
  · rename_i a b n
    refine kmp (q := (decide (a ≤ n) && decide (n ≤ b)) = (decide (a ≤ n) && decide (n ≤ b))) (by kernel_rfl) ?_
    rfl
  · trivial
end Go.Proofs.YtlgmofjjjhbgkaaGreat.Sx.Z
namespace Go.Proofs.YtlgmofjjjhbgkaaGreat.Sx.Z
open Go.RowKit
def hasQ (f v : Nat → Int) (o : Nat) : Bool := decide (-2147483648 ≤ v (o / 7)) && decide (v (o / 7) ≤ 2147483647) && decide (IntKind.i64.wrap (v (o / 7) - v (o % 7)) ≤ f o)
theorem hasQ_eq {f v : Nat → Int} {k m : Nat} (hm : m < 7) : hasQ f v (k * 7 + m) = !(!(decide (-2147483648 ≤ v k) && decide (v k ≤ 2147483647)) || decide (IntKind.i64.wrap (v k - v m) > f (k * 7 + m))) := by
  unfold hasQ
  rw [(dm7 (k := k) (m := m) hm).1, (dm7 (k := k) (m := m) hm).2]
  by_cases h : IntKind.i64.wrap (v k - v m) ≤ f (k * 7 + m)
  · rw [decide_eq_true h, decide_eq_false (show ¬ IntKind.i64.wrap (v k - v m) > f (k * 7 + m) by omega)]
    simp
  · rw [decide_eq_false h, decide_eq_true (show IntKind.i64.wrap (v k - v m) > f (k * 7 + m) by omega)]
    simp
def hasP (n : Int) (c : Bool) (f : Nat → Int) (l : Nat) (g : Nat → Int) : Bool := if (c || (l : Int) != n || decide (n > 6)) = true then false else allB (hasQ f (hv l g)) (rowsP n).toNat
/-- A row of numbers. -/
def ig (d : D) : Nat → Int := fun j => (d.el j 0).toI
def zhasS : FSpec := fun ds _ => match ds with
  | [.i n, .b c, .f f, .d d] => some { val := .one (.sc (.bool (.sym (hasP n c f d.len (ig d))))), vc := [] }
  | _ => none
def zhasC : Con := con [zA, .sc (.rows 3)] zhasS
theorem zhas_ok : ConOK Tryz.prog 35 zhasC := by
  refine fn_ob tt_ok mixed Tryz.func35 rfl (fun _ _ => by kernel_rfl) (A := fun ds => ⟨fun _ => Cons.of [(68, rowsC), (19, iallC), (34, ihasC)], fun k => match k, ds with | 6, [.i n, .b c, .f f, .d d] => some { ι := Nat, pre := fun _ k => k ≤ (rowsP n).toNat ∧ up (hasQ f (hv d.len (ig d))) (rowsP n).toNat k 0, μ := fun k => 7 - k, st := fun s k => fam s [(27, .one (.sc (.int .i64 (.sym (k : Nat)))))] [2, 4, 5, 26] 5 (.own 41 [.ints .i64 (.lit 7) (hv d.len (ig d))]) [2] } | 9, [.i n, .b c, .f f, .d d] => some { ι := Nat, pre := fun s q => q ≤ (rowsP n).toNat ∧ up (hasQ f (hv d.len (ig d))) (rowsP n).toNat (slotN s 27) q, μ := fun q => 7 - q, st := fun s q => fam s [(32, .one (.sc (.int .i64 (.sym (q : Nat)))))] [2, 4, 5, 6, 26, 27, 31] 5 (.own 41 [.ints .i64 (.lit 7) (hv d.len (ig d))]) [2] } | _, _ => none, fun _ => none⟩) (fun _ _ => (cons_cons rows_ok (cons_cons iall_ok (cons_cons ihas_ok cons_nil)))) (by kernel_rfl) ?_
  intro ds fr
  unfold zhasS
  split
  · rename_i n c f d
    refine kmp (q := ((c || (↑d.len : Int) != n || decide (n > (6 : Int))) = true → false = hasP n c f d.len (ig d)) ∧
 ((c || (↑d.len : Int) != n || decide (n > (6 : Int))) = false →
 (0 : Nat) + nat_lit 1 * (1 : Nat) + d.len.min ((7 : Nat) - nat_lit 1) ≤ (7 : Nat) ∧
 (∃ (i : Nat),
 (i ≤ (rowsP n).toNat ∧ up (hasQ f (hv d.len (ig d))) (rowsP n).toNat i (0 : Nat)) ∧
 (0 : Int) = (↑i : Int) ∧
 false = false ∧
 rowsP n = rowsP n ∧
 (∀ (o : Nat),
 o < nat_lit 7 →
 (if
 (((0 : Nat) + nat_lit 1 * (1 : Nat)).ble o && o.blt ((0 : Nat) + nat_lit 1 * (1 : Nat) + d.len.min ((7 : Nat) - nat_lit 1))) =
 true then
 (d.el (o - ((0 : Nat) + nat_lit 1 * (1 : Nat))) (0 : Nat)).toI
 else (0 : Int)) =
 hv d.len (ig d) o) ∧
 n = n ∧ c = c ∧ ∀ (o : Nat), o < nat_lit 49 → f o = f o) ∧
 ∀ (i : Nat),
 i ≤ (rowsP n).toNat ∧ up (hasQ f (hv d.len (ig d))) (rowsP n).toNat i (0 : Nat) →
 (decide ((↑i : Int) < rowsP n) = true →
 (∃ (i_1 : Nat),
 (i_1 ≤ (rowsP n).toNat ∧ up (hasQ f (hv d.len (ig d))) (rowsP n).toNat (↑i : Int).toNat i_1) ∧
 (0 : Int) = (↑i_1 : Int) ∧
 false = false ∧
 (↑i : Int) = (↑i : Int) ∧
 rowsP n = rowsP n ∧
 (↑i : Int) = (↑i : Int) ∧
 rowsP n = rowsP n ∧
 (∀ (o : Nat), o < nat_lit 7 → hv d.len (ig d) o = hv d.len (ig d) o) ∧
 n = n ∧ c = c ∧ ∀ (o : Nat), o < nat_lit 49 → f o = f o) ∧
 ∀ (i_1 : Nat),
 i_1 ≤ (rowsP n).toNat ∧ up (hasQ f (hv d.len (ig d))) (rowsP n).toNat (↑i : Int).toNat i_1 →
 (decide ((↑i_1 : Int) < rowsP n) = true →
 ((0 : Int) ≤ (↑i : Int) ∧ (↑i : Int) < (↑(7 : Nat) : Int)) ∧
 (0 : Nat) + (↑i : Int).toNat * (1 : Nat) < (7 : Nat) ∧
 ((!(decide ((-2147483648 : Int) ≤ hv d.len (ig d) ((0 : Nat) + (↑i : Int).toNat * (1 : Nat))) &&
 decide (hv d.len (ig d) ((0 : Nat) + (↑i : Int).toNat * (1 : Nat)) ≤ (2147483647 : Int)))) =
 false ∧
 True →
 (0 : Int) ≤ (↑i : Int) ∧ (↑i : Int) < (↑(7 : Nat) : Int)) ∧
 ((!(decide ((-2147483648 : Int) ≤ hv d.len (ig d) ((0 : Nat) + (↑i : Int).toNat * (1 : Nat))) &&
 decide (hv d.len (ig d) ((0 : Nat) + (↑i : Int).toNat * (1 : Nat)) ≤ (2147483647 : Int)))) =
 false ∧
 True →
 (0 : Nat) + (↑i : Int).toNat * (1 : Nat) < (7 : Nat)) ∧
 ((!(decide ((-2147483648 : Int) ≤ hv d.len (ig d) ((0 : Nat) + (↑i : Int).toNat * (1 : Nat))) &&
 decide (hv d.len (ig d) ((0 : Nat) + (↑i : Int).toNat * (1 : Nat)) ≤ (2147483647 : Int)))) =
 false ∧
 True →
 (0 : Int) ≤ (↑i_1 : Int) ∧ (↑i_1 : Int) < (↑(7 : Nat) : Int)) ∧
 ((!(decide ((-2147483648 : Int) ≤ hv d.len (ig d) ((0 : Nat) + (↑i : Int).toNat * (1 : Nat))) &&
 decide (hv d.len (ig d) ((0 : Nat) + (↑i : Int).toNat * (1 : Nat)) ≤ (2147483647 : Int)))) =
 false ∧
 True →
 (0 : Nat) + (↑i_1 : Int).toNat * (1 : Nat) < (7 : Nat)) ∧
 ((!(decide ((-2147483648 : Int) ≤ hv d.len (ig d) ((0 : Nat) + (↑i : Int).toNat * (1 : Nat))) &&
 decide (hv d.len (ig d) ((0 : Nat) + (↑i : Int).toNat * (1 : Nat)) ≤ (2147483647 : Int)))) =
 false ∧
 True →
 (0 : Int) ≤ (↑i : Int) ∧ (↑i : Int) < (↑(7 : Nat) : Int)) ∧
 ((!(decide ((-2147483648 : Int) ≤ hv d.len (ig d) ((0 : Nat) + (↑i : Int).toNat * (1 : Nat))) &&
 decide (hv d.len (ig d) ((0 : Nat) + (↑i : Int).toNat * (1 : Nat)) ≤ (2147483647 : Int)))) =
 false ∧
 True →
 (0 : Int) ≤ (↑i_1 : Int) ∧ (↑i_1 : Int) < (↑(7 : Nat) : Int)) ∧
 ((!(decide ((-2147483648 : Int) ≤ hv d.len (ig d) ((0 : Nat) + (↑i : Int).toNat * (1 : Nat))) &&
 decide (hv d.len (ig d) ((0 : Nat) + (↑i : Int).toNat * (1 : Nat)) ≤ (2147483647 : Int)))) =
 false ∧
 True →
 nat_lit 0 + ((↑i : Int).toNat * (7 : Nat) + (↑i_1 : Int).toNat * (1 : Nat)) < (49 : Nat)) ∧
 ((!(decide ((-2147483648 : Int) ≤ hv d.len (ig d) ((0 : Nat) + (↑i : Int).toNat * (1 : Nat))) &&
 decide (hv d.len (ig d) ((0 : Nat) + (↑i : Int).toNat * (1 : Nat)) ≤ (2147483647 : Int))) ||
 decide
 (IntKind.i64.wrap
 (hv d.len (ig d) ((0 : Nat) + (↑i : Int).toNat * (1 : Nat)) -
 hv d.len (ig d) ((0 : Nat) + (↑i_1 : Int).toNat * (1 : Nat))) >
 f (nat_lit 0 + ((↑i : Int).toNat * (7 : Nat) + (↑i_1 : Int).toNat * (1 : Nat))))) =
 true →
 false = hasP n c f d.len (ig d)) ∧
 ((!(decide ((-2147483648 : Int) ≤ hv d.len (ig d) ((0 : Nat) + (↑i : Int).toNat * (1 : Nat))) &&
 decide (hv d.len (ig d) ((0 : Nat) + (↑i : Int).toNat * (1 : Nat)) ≤ (2147483647 : Int))) ||
 decide
 (IntKind.i64.wrap
 (hv d.len (ig d) ((0 : Nat) + (↑i : Int).toNat * (1 : Nat)) -
 hv d.len (ig d) ((0 : Nat) + (↑i_1 : Int).toNat * (1 : Nat))) >
 f (nat_lit 0 + ((↑i : Int).toNat * (7 : Nat) + (↑i_1 : Int).toNat * (1 : Nat))))) =
 false →
 ∃ (j : Nat),
 (j ≤ (rowsP n).toNat ∧ up (hasQ f (hv d.len (ig d))) (rowsP n).toNat (↑i : Int).toNat j) ∧
 (7 : Nat) - j < (7 : Nat) - i_1 ∧
 IntKind.i64.wrap ((↑i_1 : Int) + (1 : Int)) = (↑j : Int) ∧
 false = false ∧
 (↑i : Int) = (↑i : Int) ∧
 rowsP n = rowsP n ∧
 (↑i : Int) = (↑i : Int) ∧
 rowsP n = rowsP n ∧
 (∀ (o : Nat), o < nat_lit 7 → hv d.len (ig d) o = hv d.len (ig d) o) ∧
 n = n ∧ c = c ∧ ∀ (o : Nat), o < nat_lit 49 → f o = f o)) ∧
 (decide ((↑i_1 : Int) < rowsP n) = false →
 ∃ (j : Nat),
 (j ≤ (rowsP n).toNat ∧ up (hasQ f (hv d.len (ig d))) (rowsP n).toNat j (0 : Nat)) ∧
 (7 : Nat) - j < (7 : Nat) - i ∧
 IntKind.i64.wrap ((↑i : Int) + (1 : Int)) = (↑j : Int) ∧
 false = false ∧
 rowsP n = rowsP n ∧
 (∀ (o : Nat), o < nat_lit 7 → hv d.len (ig d) o = hv d.len (ig d) o) ∧
 n = n ∧ c = c ∧ ∀ (o : Nat), o < nat_lit 49 → f o = f o)) ∧
 (decide ((↑i : Int) < rowsP n) = false → true = hasP n c f d.len (ig d)))) (by kernel_rfl) ?_
    simp only [raw0, true_and, and_true, implies_true, Nat.mul_one, Int.toNat_natCast, c7, decide_eq_true_eq, decide_eq_false_iff_not, Nat.zero_add, forall_const, Nat.le_eq, at_iff, bne_iff_ne, bne_eq_false_iff_eq, and_self, and_self_left]
    refine ⟨fun h => ?_, fun h => ?_⟩
    · unfold hasP; rw [if_pos h]
    · have hw : hasP n c f d.len (ig d) = allB (hasQ f (hv d.len (ig d))) (rowsP n).toNat := by unfold hasP; rw [if_neg (by rw [h]; simp)]
      rw [hw]
      have hr := rowsP_le n
      obtain ⟨r, hre⟩ := Int.eq_ofNat_of_zero_le (show 0 ≤ rowsP n by omega)
      rw [hre] at hr ⊢
      simp only [Int.toNat_natCast]
      have hl1 : Nat.min d.len 6 ≤ d.len := Nat.min_le_left d.len 6
      have hl2 : Nat.min d.len 6 ≤ 6 := Nat.min_le_right d.len 6
      refine ⟨show 1 + Nat.min d.len 6 ≤ 7 by omega, ⟨0, ⟨by omega, up_zero _ _⟩, rfl, fun o ho => rfl⟩, fun k hk => ⟨fun h3 => ⟨⟨0, ⟨by omega, hk.2⟩, rfl⟩, ?_⟩, fun h3 => ?_⟩⟩
      · rintro b ⟨hb, hu⟩
        refine ⟨fun h4 => ?_, fun h4 => ?_⟩
        · have hq := hasQ_eq (f := f) (v := hv d.len (ig d)) (k := k) (m := b) (by omega)
          refine ⟨by omega, by omega, fun _ => by omega, fun _ => by omega, fun _ => by omega, fun _ => by omega, fun _ => by omega, fun _ => by omega, fun _ => by omega, fun h5 => ?_, fun h5 => ?_⟩
          · exact up_no (k := k) (m := b) (by omega) (by omega) (by omega) (by rw [hq, h5]; rfl)
          · rw [wr ((b : Int) + 1) (by omega)]
            exact ⟨b + 1, ⟨by omega, up_step hu (by omega) (by rw [hq, h5]; rfl)⟩, by omega, by omega⟩
        · rw [wr ((k : Int) + 1) (by omega)]
          have : b = r := by omega
          subst this
          exact ⟨k + 1, ⟨by omega, up_next hu⟩, by omega, by omega⟩
      · have : k = r := by omega
        subst this
        exact up_end hk.2
  · trivial
end Go.Proofs.YtlgmofjjjhbgkaaGreat.Sx.Z
namespace Go.Proofs.YtlgmofjjjhbgkaaGreat.Sx.Z
open Go.RowKit
theorem has_pt {n : Int} {z : Zs} (h : Good n z) {l : Nat} (hl : (l : Int) = n) {g : Nat → Int} (p : Pt n z (vz g)) : hasP n z.1 z.2 l g = true := by
  have hR := R_le n
  have hrn := rows_n h.n0
  unfold hasP
  rw [if_neg (by
    have h1 : ((l : Int) != n) = false := by simp [hl]
    have h2 : decide (n > 6) = false := decide_eq_false (by have := h.n0; omega)
    rw [p.1, h1, h2]; simp)]
  refine allB_iff.2 fun o ho hr => ?_
  have hR' : (rowsP n).toNat = R n := rfl
  rw [hR'] at hr
  have hv : ∀ q, q < R n → hv l g q = vz g q := fun q hq => by
    unfold hv cpF vz
    have hm : Nat.min l 6 = l := Nat.min_eq_left (by have := h.n0; omega)
    rw [hm]
    by_cases h0 : q = 0
    · rw [if_pos h0, if_neg (by simp only [Bool.and_eq_true, Nat.ble_eq, Nat.blt_eq]; omega)]
    · rw [if_neg h0, if_pos (by simp only [Bool.and_eq_true, Nat.ble_eq, Nat.blt_eq]; omega)]
  unfold hasQ
  rw [hv _ hr.1, hv _ hr.2]
  have r1 := pt_range h p hr.1
  have r2 := pt_range h p hr.2
  have hp := p.2.2 _ _ hr.1 hr.2
  have eo : o / 7 * 7 + o % 7 = o := by omega
  rw [eo] at hp
  rw [wr _ (by omega)]
  simp only [Bool.and_eq_true, decide_eq_true_eq]
  exact ⟨⟨r1.1, r1.2⟩, hp⟩
theorem has_congr {n : Int} {c : Bool} {f g g' : Nat → Int} {l : Nat} (h : ∀ q, q < l → g q = g' q) : hasP n c f l g = hasP n c f l g' := by
  have : hv l g = hv l g' := by
    funext q
    unfold hv cpF
    split
    · rename_i hq
      simp only [Bool.and_eq_true, Nat.ble_eq, Nat.blt_eq] at hq
      have := show Nat.min l 6 ≤ l from Nat.min_le_left l 6
      exact h _ (by omega)
    · rfl
  unfold hasP
  rw [this]
def rowI (n : Nat) (f : Nat → Int) : D := .l ((List.range n).map fun j => [.i (f j)])
theorem rowI_len (n : Nat) (f : Nat → Int) : (rowI n f).len = n := by
  show ((List.range n).map _).length = n
  simp
theorem rowI_el {n i : Nat} (h : i < n) (f : Nat → Int) : ((rowI n f).el i 0).toI = f i := by
  show (((((List.range n).map fun j => [D.i (f j)])).getD i []).getD 0 (.i 0)).toI = f i
  rw [List.getD_eq_getElem?_getD (l := List.map _ _), List.getElem?_map, List.getElem?_range h]
  rfl
theorem ig_rows {d d' : D} (h : d.rows = d'.rows) : ig d = ig d' := by
  funext j
  unfold ig D.el
  rw [h]
theorem len_rows {d d' : D} (h : d.rows = d'.rows) : d.len = d'.len := by unfold D.len; rw [h]
theorem ig_rowI (n : Nat) (f : Nat → Int) {q : Nat} (h : q < n) : ig (rowI n f) q = f q := rowI_el h f
end Go.Proofs.YtlgmofjjjhbgkaaGreat.Sx.Z
namespace Go.Proofs.YtlgmofjjjhbgkaaGreat.Sx.Z
open Go.RowKit
def hasJ (I v : D) (j : Nat) : Bool := decide ((I.el j 0).toI ≤ (v.el j 0).toI) && decide ((v.el j 0).toI ≤ (I.el j 1).toI)
def allJ (p : Nat → Bool) (m : Nat) : Bool := (List.range m).all p
theorem allJ_iff {p : Nat → Bool} {m : Nat} : allJ p m = true ↔ ∀ j, j < m → p j = true := by
  unfold allJ
  rw [List.all_eq_true]
  exact ⟨fun h j hj => h j (List.mem_range.2 hj), fun h j hj => h j (List.mem_range.1 hj)⟩
theorem allJ_no {p : Nat → Bool} {m j : Nat} (hj : j < m) (h : p j = false) : allJ p m = false := by
  cases e : allJ p m with
  | false => rfl
  | true => have := allJ_iff.1 e j hj; rw [h] at this; cases this
def nhasP (c : Bool) (I : D) (n : Int) (e : Bool) (f : Nat → Int) (v : D) : Bool := if (c || (v.len : Int) != I.len) = true then false else allJ (hasJ I v) I.len && hasP n e f v.len (ig v)
def nhasS : FSpec := fun ds _ => match ds with
  | [.b c, .d I, .i n, .b e, .f f, .d v] => some { val := .one (.sc (.bool (.sym (nhasP c I n e f v)))), vc := [I.len ≤ 1000] }
  | _ => none
def nhasC : Con := con [numA, .sc (.rows 3)] nhasS
theorem nhas_ok : ConOK Tryz.prog 12 nhasC := by
  refine fn_ob tt_ok mixed Tryz.func12 rfl (fun _ _ => by kernel_rfl) (A := fun ds => ⟨fun _ => Cons.of [(34, ihasC), (35, zhasC)], fun k => match k, ds with | 4, [.b c, .d I, .i n, .b e, .f f, .d v] => some { ι := Nat, pre := fun _ k => k ≤ I.len ∧ ∀ j, j < k → hasJ I v j = true, μ := fun k => I.len + 1 - k, st := fun s k => famR s [(20, .one (.sc (.int .i64 (.sym ((k : Nat))))))] [1, 2, 18, 19] [] [2] } | _, _ => none, fun _ => none⟩) (fun _ _ => (cons_cons ihas_ok (cons_cons zhas_ok cons_nil))) (by kernel_rfl) ?_
  intro ds fr
  unfold nhasS
  split
  · rename_i c I n e f v
    refine kmp (q := I.len ≤ (1000 : Nat) →
 ((c || (↑v.len : Int) != (↑I.len : Int)) = true → false = nhasP c I n e f v) ∧
 ((c || (↑v.len : Int) != (↑I.len : Int)) = false →
 (∃ (i : Nat),
 (i ≤ I.len ∧ ∀ (j : Nat), j < i → hasJ I v j = true) ∧
 (0 : Int) = (↑i : Int) ∧
 v.rows = v.rows ∧
 I.rows = I.rows ∧ (↑I.len : Int) = (↑I.len : Int) ∧ c = c ∧ I.rows = I.rows ∧ n = n ∧ e = e ∧ ∀ (o : Nat), o < nat_lit 49 → f o = f o) ∧
 ∀ (i : Nat),
 (i ≤ I.len ∧ ∀ (j : Nat), j < i → hasJ I v j = true) →
 (decide ((↑i : Int) < (↑I.len : Int)) = true →
 ((0 : Int) ≤ (↑i : Int) ∧ (↑i : Int) < (↑I.len : Int)) ∧
 ((0 : Int) ≤ (↑i : Int) ∧ (↑i : Int) < (↑v.len : Int)) ∧
 ((!(decide ((I.el (↑i : Int).toNat (0 : Nat)).toI ≤ (v.el (↑i : Int).toNat (0 : Nat)).toI) &&
 decide ((v.el (↑i : Int).toNat (0 : Nat)).toI ≤ (I.el (↑i : Int).toNat ((0 : Nat) + (1 : Nat))).toI))) =
 true →
 false = nhasP c I n e f v) ∧
 ((!(decide ((I.el (↑i : Int).toNat (0 : Nat)).toI ≤ (v.el (↑i : Int).toNat (0 : Nat)).toI) &&
 decide ((v.el (↑i : Int).toNat (0 : Nat)).toI ≤ (I.el (↑i : Int).toNat ((0 : Nat) + (1 : Nat))).toI))) =
 false →
 ∃ (j : Nat),
 (j ≤ I.len ∧ ∀ (j_1 : Nat), j_1 < j → hasJ I v j_1 = true) ∧
 I.len + (1 : Nat) - j < I.len + (1 : Nat) - i ∧
 IntKind.i64.wrap ((↑i : Int) + (1 : Int)) = (↑j : Int) ∧
 v.rows = v.rows ∧
 I.rows = I.rows ∧
 (↑I.len : Int) = (↑I.len : Int) ∧ c = c ∧ I.rows = I.rows ∧ n = n ∧ e = e ∧ ∀ (o : Nat), o < nat_lit 49 → f o = f o)) ∧
 (decide ((↑i : Int) < (↑I.len : Int)) = false → hasP n e f v.len (ig v) = nhasP c I n e f v))) (by kernel_rfl) ?_
    simp only [raw0, true_and, and_true, implies_true, Nat.mul_one, Int.toNat_natCast, c7, decide_eq_true_eq, decide_eq_false_iff_not, Nat.zero_add, forall_const, Nat.le_eq, at_iff, bne_iff_ne, bne_eq_false_iff_eq, and_self, and_self_left, Nat.reduceAdd]
    intro hI
    refine ⟨fun h => (if_pos h).symm, fun h => ⟨⟨0, ⟨by omega, fun j hj => absurd hj (Nat.not_lt_zero j)⟩, rfl⟩, fun i hi => ⟨fun h1 => ?_, fun h1 => ?_⟩⟩⟩
    · have hvl : (v.len : Int) = I.len := by
        simp only [Bool.or_eq_false_iff, bne_eq_false_iff_eq] at h
        exact h.2
      refine ⟨by omega, by omega, fun h2 => ?_, fun h2 => ⟨i + 1, ⟨by omega, fun j hj => ?_⟩, by omega, wr _ (by omega)⟩⟩
      · have e : nhasP c I n e f v = (allJ (hasJ I v) I.len && hasP n e f v.len (ig v)) := if_neg (by rw [h]; simp)
        rw [e, allJ_no (j := i) (by omega) (by unfold hasJ; rwa [Bool.not_eq_true'] at h2)]
        rfl
      · by_cases hj2 : j < i
        · exact hi.2 j hj2
        · rw [show j = i by omega]; unfold hasJ; simpa using h2
    · have e : nhasP c I n e f v = (allJ (hasJ I v) I.len && hasP n e f v.len (ig v)) := if_neg (by rw [h]; simp)
      rw [e, allJ_iff.2 (fun j hj => hi.2 j (by omega))]
      rfl
  · trivial
end Go.Proofs.YtlgmofjjjhbgkaaGreat.Sx.Z
namespace Go.Proofs.YtlgmofjjjhbgkaaGreat.Sx.Z
open Go.RowKit
def rxpA : AP := .agg [.c (.int .i64), .c (.int .i64), .c (.int .i64), .c (.rows 66)]
def modU (a b : Int) : Int := IntKind.i64.wrap ((IntKind.u64.wrap a).tmod (IntKind.u64.wrap b))
end Go.Proofs.YtlgmofjjjhbgkaaGreat.Sx.Z
namespace Go.Proofs.YtlgmofjjjhbgkaaGreat.Sx.Z
open Go.RowKit
theorem modU_in {a b : Int} (h : 0 < b ∧ b ≤ 2147483648) : 0 ≤ modU a b ∧ modU a b < b := by
  have e : IntKind.u64.wrap b = b := by rw [IntKind.wrap_u64]; omega
  have h1 : 0 ≤ IntKind.u64.wrap a := by rw [IntKind.wrap_u64]; omega
  have h2 := Int.tmod_nonneg b h1
  have h3 := Int.tmod_lt_of_pos (IntKind.u64.wrap a) h.1
  unfold modU
  rw [e, wr _ (by omega)]
  exact ⟨h2, h3⟩
end Go.Proofs.YtlgmofjjjhbgkaaGreat.Sx.Z
namespace Go.Proofs.YtlgmofjjjhbgkaaGreat.Sx.Z
open Go.RowKit
def cl (p : Int × Int) : List D := [.i p.1, .i p.2]
end Go.Proofs.YtlgmofjjjhbgkaaGreat.Sx.Z
namespace Go.Proofs.YtlgmofjjjhbgkaaGreat.Sx.Z
open Go.RowKit
/-- A tree that Tame tells, by its cells. -/
theorem tm_cells {w k n v : Int} {d : D} (h : Tm w (ex k n v d)) : (d.len = 0 ∧ ((k = 1 ∧ 0 ≤ n ∧ n ≤ 2147483647) ∨ (k = 2 ∧ 0 ≤ v ∧ v < w))) ∨ (d.len = 1 ∧ k = 3 ∧ Tm w (exE d 0)) ∨ (d.len = 2 ∧ 4 ≤ k ∧ k ≤ 8 ∧ Tm w (exE d 0) ∧ Tm w (exE d 1)) := by
  generalize he : ex k n v d = e at h
  cases h with
  | num m h0 h1 =>
    obtain ⟨rfl, rfl, rfl, hd⟩ := Xp.mk.inj he
    have : d.len = 0 := by rw [← exs_len, hd]; rfl
    exact .inl ⟨this, .inl ⟨rfl, h0, h1⟩⟩
  | var u h0 h1 =>
    obtain ⟨rfl, rfl, rfl, hd⟩ := Xp.mk.inj he
    have : d.len = 0 := by rw [← exs_len, hd]; rfl
    exact .inl ⟨this, .inr ⟨rfl, h0, h1⟩⟩
  | neg a ha =>
    obtain ⟨rfl, rfl, rfl, hd⟩ := Xp.mk.inj he
    have hl : d.len = 1 := by rw [← exs_len, hd]; rfl
    rw [exs_one hl] at hd
    obtain ⟨rfl, _⟩ := List.cons.inj hd
    exact .inr (.inl ⟨hl, rfl, ha⟩)
  | bin q a b h4 h8 ha hb =>
    obtain ⟨rfl, rfl, rfl, hd⟩ := Xp.mk.inj he
    have hl : d.len = 2 := by rw [← exs_len, hd]; rfl
    rw [exs_two hl] at hd
    obtain ⟨rfl, hd2⟩ := List.cons.inj hd
    obtain ⟨rfl, _⟩ := List.cons.inj hd2
    exact .inr (.inr ⟨hl, h4, h8, ha, hb⟩)
theorem ev_c1 (g : Int → Int) (k n v : Int) {d : D} (h : d.len = 1) : evT g (ex k n v d) = opT 5 (0, 0) (evT g (exE d 0)) := by
  show evT g (.mk k n v (exs d)) = _
  rw [exs_one h, ev_1]
theorem ev_c2 (g : Int → Int) (k n v : Int) {d : D} (h : d.len = 2) : evT g (ex k n v d) = opT k (evT g (exE d 0)) (evT g (exE d 1)) := by
  show evT g (.mk k n v (exs d)) = _
  rw [exs_two h, ev_2]
theorem ev_c0 (g : Int → Int) (k n v : Int) {d : D} (h : d.len = 0) : evT g (ex k n v d) = if k = 1 then (n, 0) else (g v, 0) := by
  have : exs d = [] := List.length_eq_zero_iff.1 (by rw [exs_len, h])
  show evT g (.mk k n v (exs d)) = _
  rw [this, ev_0]
/-- One operation, with its error. -/
theorem opT_w {k a b x : Int} (hx : valP k a b = x) (h7 : k ≤ 6 ∨ b ≠ 0) : ((decide (x < -2147483648) || decide (x > 2147483647)) = true → (if errP k a b = 0 then (valP k a b, 0) else (0, errP k a b)) = ((0 : Int), (2 : Int))) ∧ ((decide (x < -2147483648) || decide (x > 2147483647)) = false → (if errP k a b = 0 then (valP k a b, 0) else (0, errP k a b)) = (x, 0)) := by
  have := errP_or k a b
  rw [hx] at this ⊢
  refine ⟨fun h => ?_, fun h => ?_⟩
  · have h : x < -2147483648 ∨ x > 2147483647 := by simpa using h
    have : errP k a b = 2 := by omega
    rw [if_neg (by omega), this]
  · have h : ¬ (x < -2147483648 ∨ x > 2147483647) := by simp at h; omega
    rw [if_pos (by omega)]
noncomputable def revS : FSpec := fun ds _ => match ds with
  | [.i k, .i n, .i v, .d d, .d g] => some { val := .tup [.sc (.int .i64 (.sym (evT (vD g) (ex k n v d)).1)), .sc (.int .i64 (.sym (evT (vD g) (ex k n v d)).2))], vc := [Tm g.len (ex k n v d), InV g.len (vD g)] }
  | _ => none
noncomputable def revC : Con := con [rxpA, .sc (.rows 3)] revS
noncomputable def revM : List Dat → Nat := fun ds => match ds with
  | [.i k, .i n, .i v, .d d, .d g] => SizeOf.sizeOf d
  | _ => 0
noncomputable def revSu (m : Nat) : FSpec := fun ds _ => match ds with
  | [.i k, .i n, .i v, .d d, .d g] => some { val := .tup [.sc (.int .i64 (.sym (evT (vD g) (ex k n v d)).1)), .sc (.int .i64 (.sym (evT (vD g) (ex k n v d)).2))], vc := [SizeOf.sizeOf d < m, Tm g.len (ex k n v d), InV g.len (vD g)] }
  | _ => none
theorem rev_under (m : Nat) : revS.under revM m = revSu m := by
  funext ds fr
  unfold FSpec.under revS revM revSu
  split
  · rename_i e h
    split at h
    · obtain rfl := Option.some.inj h; rfl
    · cases h
  · rename_i h
    split at h
    · cases h
    · rfl
theorem rev_step (m : Nat) (ih : ConOK Tryz.prog 10 (con [rxpA, .sc (.rows 3)] (revSu m))) : ConOK Tryz.prog 10 (con [rxpA, .sc (.rows 3)] (revSu (m + 1))) := by
  refine fn_ob tt_ok mixed Tryz.func10 rfl (fun _ _ => by kernel_rfl) (A := fun ds => ⟨fun _ => Cons.of [(10, con [rxpA, .sc (.rows 3)] (revSu m))], fun k => match k, ds with | 3, [.i k, .i n, .i v, .d d, .d g] => some { ι := Nat, pre := fun _ i => i ≤ d.len ∧ i ≤ 2 ∧ ∀ j, j < i → (evT (vD g) (exE d j)).2 = 0, μ := fun i => 3 - i, st := fun s i => famR s [(7, .one (.sc (.int .i64 (.sym ((i : Nat))))))] [1, 2, 4, 5, 6] [(idOf s 6, .own 104 ([.ints .i64 (.lit 2) (fun j => if j < i then (evT (vD g) (exE d j)).1 else 0)]))] [2] } | _, _ => none, fun _ => none⟩) (fun _ _ => (cons_cons ih cons_nil)) (by kernel_rfl) ?_
  intro ds fr
  unfold revSu
  split
  · rename_i k n v d g
    refine kmp (q := SizeOf.sizeOf d < m + (1 : Nat) →
 Tm (↑g.len : Int) (ex k n v d) →
 InV (↑g.len : Int) (vD g) →
 (∃ (i : Nat),
 (i ≤ d.len ∧ i ≤ (2 : Nat) ∧ ∀ (j : Nat), j < i → (evT (vD g) (exE d j)).snd = (0 : Int)) ∧
 (0 : Int) = (↑i : Int) ∧
 g.rows = g.rows ∧
 (0 : Int) = (0 : Int) ∧
 (0 : Int) = (0 : Int) ∧
 (∀ (o : Nat), o < nat_lit 2 → (0 : Int) = if o < i then (evT (vD g) (exE d o)).fst else (0 : Int)) ∧
 k = k ∧ n = n ∧ v = v ∧ d.rows = d.rows) ∧
 ∀ (i : Nat),
 (i ≤ d.len ∧ i ≤ (2 : Nat) ∧ ∀ (j : Nat), j < i → (evT (vD g) (exE d j)).snd = (0 : Int)) →
 ((decide ((↑i : Int) < (↑d.len : Int)) && decide ((↑i : Int) < (2 : Int))) = true →
 ((0 : Int) ≤ (↑i : Int) ∧ (↑i : Int) < (↑d.len : Int)) ∧
 SizeOf.sizeOf (d.el (↑i : Int).toNat ((0 : Nat) + (1 : Nat) + (1 : Nat) + (1 : Nat))) < m ∧
 Tm (↑g.len : Int)
 (ex (d.el (↑i : Int).toNat (0 : Nat)).toI (d.el (↑i : Int).toNat ((0 : Nat) + (1 : Nat))).toI
 (d.el (↑i : Int).toNat ((0 : Nat) + (1 : Nat) + (1 : Nat))).toI
 (d.el (↑i : Int).toNat ((0 : Nat) + (1 : Nat) + (1 : Nat) + (1 : Nat)))) ∧
 InV (↑g.len : Int) (vD g) ∧
 (((evT (vD g)
 (ex (d.el (↑i : Int).toNat (0 : Nat)).toI (d.el (↑i : Int).toNat ((0 : Nat) + (1 : Nat))).toI
 (d.el (↑i : Int).toNat ((0 : Nat) + (1 : Nat) + (1 : Nat))).toI
 (d.el (↑i : Int).toNat ((0 : Nat) + (1 : Nat) + (1 : Nat) + (1 : Nat))))).snd !=
 (0 : Int)) =
 true →
 (0 : Int) = (evT (vD g) (ex k n v d)).fst ∧
 (evT (vD g)
 (ex (d.el (↑i : Int).toNat (0 : Nat)).toI (d.el (↑i : Int).toNat ((0 : Nat) + (1 : Nat))).toI
 (d.el (↑i : Int).toNat ((0 : Nat) + (1 : Nat) + (1 : Nat))).toI
 (d.el (↑i : Int).toNat ((0 : Nat) + (1 : Nat) + (1 : Nat) + (1 : Nat))))).snd =
 (evT (vD g) (ex k n v d)).snd) ∧
 (((evT (vD g)
 (ex (d.el (↑i : Int).toNat (0 : Nat)).toI (d.el (↑i : Int).toNat ((0 : Nat) + (1 : Nat))).toI
 (d.el (↑i : Int).toNat ((0 : Nat) + (1 : Nat) + (1 : Nat))).toI
 (d.el (↑i : Int).toNat ((0 : Nat) + (1 : Nat) + (1 : Nat) + (1 : Nat))))).snd !=
 (0 : Int)) =
 false →
 ((0 : Int) ≤ (↑i : Int) ∧ (↑i : Int) < (↑(2 : Nat) : Int)) ∧
 nat_lit 0 + (↑i : Int).toNat * (1 : Nat) + (1 : Nat) ≤ nat_lit 2 ∧
 ∃ (j : Nat),
 (j ≤ d.len ∧ j ≤ (2 : Nat) ∧ ∀ (j_1 : Nat), j_1 < j → (evT (vD g) (exE d j_1)).snd = (0 : Int)) ∧
 (3 : Nat) - j < (3 : Nat) - i ∧
 IntKind.i64.wrap ((↑i : Int) + (1 : Int)) = (↑j : Int) ∧
 g.rows = g.rows ∧
 (0 : Int) = (0 : Int) ∧
 (0 : Int) = (0 : Int) ∧
 (∀ (o : Nat),
 o < nat_lit 2 →
 (if
 ((nat_lit 0 + (↑i : Int).toNat * (1 : Nat)).ble o &&
 o.blt (nat_lit 0 + (↑i : Int).toNat * (1 : Nat) + (1 : Nat))) =
 true then
 (evT (vD g)
 (ex (d.el (↑i : Int).toNat (0 : Nat)).toI (d.el (↑i : Int).toNat ((0 : Nat) + (1 : Nat))).toI
 (d.el (↑i : Int).toNat ((0 : Nat) + (1 : Nat) + (1 : Nat))).toI
 (d.el (↑i : Int).toNat ((0 : Nat) + (1 : Nat) + (1 : Nat) + (1 : Nat))))).fst
 else if o < i then (evT (vD g) (exE d o)).fst else (0 : Int)) =
 if o < j then (evT (vD g) (exE d o)).fst else (0 : Int)) ∧
 k = k ∧ n = n ∧ v = v ∧ d.rows = d.rows)) ∧
 ((decide ((↑i : Int) < (↑d.len : Int)) && decide ((↑i : Int) < (2 : Int))) = false →
 ((k == (1 : Int)) = true →
 ((decide (n < (-2147483648 : Int)) || decide (n > (2147483647 : Int))) = true →
 (0 : Int) = (evT (vD g) (ex k n v d)).fst ∧ (2 : Int) = (evT (vD g) (ex k n v d)).snd) ∧
 ((decide (n < (-2147483648 : Int)) || decide (n > (2147483647 : Int))) = false →
 n = (evT (vD g) (ex k n v d)).fst ∧ (0 : Int) = (evT (vD g) (ex k n v d)).snd)) ∧
 ((k == (1 : Int)) = false →
 ((k == (2 : Int)) = true →
 ((decide (v ≥ (0 : Int)) && decide (v < (↑g.len : Int))) = true →
 ((0 : Int) ≤ v ∧ v < (↑g.len : Int)) ∧
 ((decide ((g.el v.toNat (0 : Nat)).toI < (-2147483648 : Int)) || decide ((g.el v.toNat (0 : Nat)).toI > (2147483647 : Int))) =
 true →
 (0 : Int) = (evT (vD g) (ex k n v d)).fst ∧ (2 : Int) = (evT (vD g) (ex k n v d)).snd) ∧
 ((decide ((g.el v.toNat (0 : Nat)).toI < (-2147483648 : Int)) || decide ((g.el v.toNat (0 : Nat)).toI > (2147483647 : Int))) =
 false →
 (g.el v.toNat (0 : Nat)).toI = (evT (vD g) (ex k n v d)).fst ∧ (0 : Int) = (evT (vD g) (ex k n v d)).snd)) ∧
 ((decide (v ≥ (0 : Int)) && decide (v < (↑g.len : Int))) = false →
 (0 : Int) = (evT (vD g) (ex k n v d)).fst ∧ (0 : Int) = (evT (vD g) (ex k n v d)).snd)) ∧
 ((k == (2 : Int)) = false →
 ((k == (3 : Int)) = true →
 ((decide
 (IntKind.i64.wrap
 ((0 : Int) -
 if nat_lit 0 + nat_lit 0 * (1 : Nat) < i then (evT (vD g) (exE d (nat_lit 0 + nat_lit 0 * (1 : Nat)))).fst
 else (0 : Int)) <
 (-2147483648 : Int)) ||
 decide
 (IntKind.i64.wrap
 ((0 : Int) -
 if nat_lit 0 + nat_lit 0 * (1 : Nat) < i then (evT (vD g) (exE d (nat_lit 0 + nat_lit 0 * (1 : Nat)))).fst
 else (0 : Int)) >
 (2147483647 : Int))) =
 true →
 (0 : Int) = (evT (vD g) (ex k n v d)).fst ∧ (2 : Int) = (evT (vD g) (ex k n v d)).snd) ∧
 ((decide
 (IntKind.i64.wrap
 ((0 : Int) -
 if nat_lit 0 + nat_lit 0 * (1 : Nat) < i then (evT (vD g) (exE d (nat_lit 0 + nat_lit 0 * (1 : Nat)))).fst
 else (0 : Int)) <
 (-2147483648 : Int)) ||
 decide
 (IntKind.i64.wrap
 ((0 : Int) -
 if nat_lit 0 + nat_lit 0 * (1 : Nat) < i then (evT (vD g) (exE d (nat_lit 0 + nat_lit 0 * (1 : Nat)))).fst
 else (0 : Int)) >
 (2147483647 : Int))) =
 false →
 IntKind.i64.wrap
 ((0 : Int) -
 if nat_lit 0 + nat_lit 0 * (1 : Nat) < i then (evT (vD g) (exE d (nat_lit 0 + nat_lit 0 * (1 : Nat)))).fst
 else (0 : Int)) =
 (evT (vD g) (ex k n v d)).fst ∧
 (0 : Int) = (evT (vD g) (ex k n v d)).snd)) ∧
 ((k == (3 : Int)) = false →
 ((k == (4 : Int)) = true →
 ((decide
 (IntKind.i64.wrap
 ((if nat_lit 0 + nat_lit 0 * (1 : Nat) < i then (evT (vD g) (exE d (nat_lit 0 + nat_lit 0 * (1 : Nat)))).fst
 else (0 : Int)) +
 if nat_lit 0 + nat_lit 1 * (1 : Nat) < i then (evT (vD g) (exE d (nat_lit 0 + nat_lit 1 * (1 : Nat)))).fst
 else (0 : Int)) <
 (-2147483648 : Int)) ||
 decide
 (IntKind.i64.wrap
 ((if nat_lit 0 + nat_lit 0 * (1 : Nat) < i then (evT (vD g) (exE d (nat_lit 0 + nat_lit 0 * (1 : Nat)))).fst
 else (0 : Int)) +
 if nat_lit 0 + nat_lit 1 * (1 : Nat) < i then (evT (vD g) (exE d (nat_lit 0 + nat_lit 1 * (1 : Nat)))).fst
 else (0 : Int)) >
 (2147483647 : Int))) =
 true →
 (0 : Int) = (evT (vD g) (ex k n v d)).fst ∧ (2 : Int) = (evT (vD g) (ex k n v d)).snd) ∧
 ((decide
 (IntKind.i64.wrap
 ((if nat_lit 0 + nat_lit 0 * (1 : Nat) < i then (evT (vD g) (exE d (nat_lit 0 + nat_lit 0 * (1 : Nat)))).fst
 else (0 : Int)) +
 if nat_lit 0 + nat_lit 1 * (1 : Nat) < i then (evT (vD g) (exE d (nat_lit 0 + nat_lit 1 * (1 : Nat)))).fst
 else (0 : Int)) <
 (-2147483648 : Int)) ||
 decide
 (IntKind.i64.wrap
 ((if nat_lit 0 + nat_lit 0 * (1 : Nat) < i then (evT (vD g) (exE d (nat_lit 0 + nat_lit 0 * (1 : Nat)))).fst
 else (0 : Int)) +
 if nat_lit 0 + nat_lit 1 * (1 : Nat) < i then (evT (vD g) (exE d (nat_lit 0 + nat_lit 1 * (1 : Nat)))).fst
 else (0 : Int)) >
 (2147483647 : Int))) =
 false →
 IntKind.i64.wrap
 ((if nat_lit 0 + nat_lit 0 * (1 : Nat) < i then (evT (vD g) (exE d (nat_lit 0 + nat_lit 0 * (1 : Nat)))).fst
 else (0 : Int)) +
 if nat_lit 0 + nat_lit 1 * (1 : Nat) < i then (evT (vD g) (exE d (nat_lit 0 + nat_lit 1 * (1 : Nat)))).fst
 else (0 : Int)) =
 (evT (vD g) (ex k n v d)).fst ∧
 (0 : Int) = (evT (vD g) (ex k n v d)).snd)) ∧
 ((k == (4 : Int)) = false →
 ((k == (5 : Int)) = true →
 ((decide
 (IntKind.i64.wrap
 ((if nat_lit 0 + nat_lit 0 * (1 : Nat) < i then (evT (vD g) (exE d (nat_lit 0 + nat_lit 0 * (1 : Nat)))).fst
 else (0 : Int)) -
 if nat_lit 0 + nat_lit 1 * (1 : Nat) < i then (evT (vD g) (exE d (nat_lit 0 + nat_lit 1 * (1 : Nat)))).fst
 else (0 : Int)) <
 (-2147483648 : Int)) ||
 decide
 (IntKind.i64.wrap
 ((if nat_lit 0 + nat_lit 0 * (1 : Nat) < i then (evT (vD g) (exE d (nat_lit 0 + nat_lit 0 * (1 : Nat)))).fst
 else (0 : Int)) -
 if nat_lit 0 + nat_lit 1 * (1 : Nat) < i then (evT (vD g) (exE d (nat_lit 0 + nat_lit 1 * (1 : Nat)))).fst
 else (0 : Int)) >
 (2147483647 : Int))) =
 true →
 (0 : Int) = (evT (vD g) (ex k n v d)).fst ∧ (2 : Int) = (evT (vD g) (ex k n v d)).snd) ∧
 ((decide
 (IntKind.i64.wrap
 ((if nat_lit 0 + nat_lit 0 * (1 : Nat) < i then (evT (vD g) (exE d (nat_lit 0 + nat_lit 0 * (1 : Nat)))).fst
 else (0 : Int)) -
 if nat_lit 0 + nat_lit 1 * (1 : Nat) < i then (evT (vD g) (exE d (nat_lit 0 + nat_lit 1 * (1 : Nat)))).fst
 else (0 : Int)) <
 (-2147483648 : Int)) ||
 decide
 (IntKind.i64.wrap
 ((if nat_lit 0 + nat_lit 0 * (1 : Nat) < i then (evT (vD g) (exE d (nat_lit 0 + nat_lit 0 * (1 : Nat)))).fst
 else (0 : Int)) -
 if nat_lit 0 + nat_lit 1 * (1 : Nat) < i then (evT (vD g) (exE d (nat_lit 0 + nat_lit 1 * (1 : Nat)))).fst
 else (0 : Int)) >
 (2147483647 : Int))) =
 false →
 IntKind.i64.wrap
 ((if nat_lit 0 + nat_lit 0 * (1 : Nat) < i then (evT (vD g) (exE d (nat_lit 0 + nat_lit 0 * (1 : Nat)))).fst
 else (0 : Int)) -
 if nat_lit 0 + nat_lit 1 * (1 : Nat) < i then (evT (vD g) (exE d (nat_lit 0 + nat_lit 1 * (1 : Nat)))).fst
 else (0 : Int)) =
 (evT (vD g) (ex k n v d)).fst ∧
 (0 : Int) = (evT (vD g) (ex k n v d)).snd)) ∧
 ((k == (5 : Int)) = false →
 ((k == (6 : Int)) = true →
 ((decide
 (IntKind.i64.wrap
 ((if nat_lit 0 + nat_lit 0 * (1 : Nat) < i then
 (evT (vD g) (exE d (nat_lit 0 + nat_lit 0 * (1 : Nat)))).fst
 else (0 : Int)) *
 if nat_lit 0 + nat_lit 1 * (1 : Nat) < i then
 (evT (vD g) (exE d (nat_lit 0 + nat_lit 1 * (1 : Nat)))).fst
 else (0 : Int)) <
 (-2147483648 : Int)) ||
 decide
 (IntKind.i64.wrap
 ((if nat_lit 0 + nat_lit 0 * (1 : Nat) < i then
 (evT (vD g) (exE d (nat_lit 0 + nat_lit 0 * (1 : Nat)))).fst
 else (0 : Int)) *
 if nat_lit 0 + nat_lit 1 * (1 : Nat) < i then
 (evT (vD g) (exE d (nat_lit 0 + nat_lit 1 * (1 : Nat)))).fst
 else (0 : Int)) >
 (2147483647 : Int))) =
 true →
 (0 : Int) = (evT (vD g) (ex k n v d)).fst ∧ (2 : Int) = (evT (vD g) (ex k n v d)).snd) ∧
 ((decide
 (IntKind.i64.wrap
 ((if nat_lit 0 + nat_lit 0 * (1 : Nat) < i then
 (evT (vD g) (exE d (nat_lit 0 + nat_lit 0 * (1 : Nat)))).fst
 else (0 : Int)) *
 if nat_lit 0 + nat_lit 1 * (1 : Nat) < i then
 (evT (vD g) (exE d (nat_lit 0 + nat_lit 1 * (1 : Nat)))).fst
 else (0 : Int)) <
 (-2147483648 : Int)) ||
 decide
 (IntKind.i64.wrap
 ((if nat_lit 0 + nat_lit 0 * (1 : Nat) < i then
 (evT (vD g) (exE d (nat_lit 0 + nat_lit 0 * (1 : Nat)))).fst
 else (0 : Int)) *
 if nat_lit 0 + nat_lit 1 * (1 : Nat) < i then
 (evT (vD g) (exE d (nat_lit 0 + nat_lit 1 * (1 : Nat)))).fst
 else (0 : Int)) >
 (2147483647 : Int))) =
 false →
 IntKind.i64.wrap
 ((if nat_lit 0 + nat_lit 0 * (1 : Nat) < i then (evT (vD g) (exE d (nat_lit 0 + nat_lit 0 * (1 : Nat)))).fst
 else (0 : Int)) *
 if nat_lit 0 + nat_lit 1 * (1 : Nat) < i then (evT (vD g) (exE d (nat_lit 0 + nat_lit 1 * (1 : Nat)))).fst
 else (0 : Int)) =
 (evT (vD g) (ex k n v d)).fst ∧
 (0 : Int) = (evT (vD g) (ex k n v d)).snd)) ∧
 ((k == (6 : Int)) = false →
 ((k == (7 : Int)) = true →
 ((k == (7 : Int)) = true →
 (((if nat_lit 0 + nat_lit 1 * (1 : Nat) < i then (evT (vD g) (exE d (nat_lit 0 + nat_lit 1 * (1 : Nat)))).fst
 else (0 : Int)) ==
 (0 : Int)) =
 true →
 (0 : Int) = (evT (vD g) (ex k n v d)).fst ∧ (3 : Int) = (evT (vD g) (ex k n v d)).snd) ∧
 (((if nat_lit 0 + nat_lit 1 * (1 : Nat) < i then (evT (vD g) (exE d (nat_lit 0 + nat_lit 1 * (1 : Nat)))).fst
 else (0 : Int)) ==
 (0 : Int)) =
 false →
 ((k == (7 : Int)) = true →
 (if nat_lit 0 + nat_lit 1 * (1 : Nat) < i then
 (evT (vD g) (exE d (nat_lit 0 + nat_lit 1 * (1 : Nat)))).fst
 else (0 : Int)) ≠
 (0 : Int) ∧
 ((decide
 (IntKind.i64.wrap
 ((if nat_lit 0 + nat_lit 0 * (1 : Nat) < i then
 (evT (vD g) (exE d (nat_lit 0 + nat_lit 0 * (1 : Nat)))).fst
 else (0 : Int)).tdiv
 (if nat_lit 0 + nat_lit 1 * (1 : Nat) < i then
 (evT (vD g) (exE d (nat_lit 0 + nat_lit 1 * (1 : Nat)))).fst
 else (0 : Int))) <
 (-2147483648 : Int)) ||
 decide
 (IntKind.i64.wrap
 ((if nat_lit 0 + nat_lit 0 * (1 : Nat) < i then
 (evT (vD g) (exE d (nat_lit 0 + nat_lit 0 * (1 : Nat)))).fst
 else (0 : Int)).tdiv
 (if nat_lit 0 + nat_lit 1 * (1 : Nat) < i then
 (evT (vD g) (exE d (nat_lit 0 + nat_lit 1 * (1 : Nat)))).fst
 else (0 : Int))) >
 (2147483647 : Int))) =
 true →
 (0 : Int) = (evT (vD g) (ex k n v d)).fst ∧ (2 : Int) = (evT (vD g) (ex k n v d)).snd) ∧
 ((decide
 (IntKind.i64.wrap
 ((if nat_lit 0 + nat_lit 0 * (1 : Nat) < i then
 (evT (vD g) (exE d (nat_lit 0 + nat_lit 0 * (1 : Nat)))).fst
 else (0 : Int)).tdiv
 (if nat_lit 0 + nat_lit 1 * (1 : Nat) < i then
 (evT (vD g) (exE d (nat_lit 0 + nat_lit 1 * (1 : Nat)))).fst
 else (0 : Int))) <
 (-2147483648 : Int)) ||
 decide
 (IntKind.i64.wrap
 ((if nat_lit 0 + nat_lit 0 * (1 : Nat) < i then
 (evT (vD g) (exE d (nat_lit 0 + nat_lit 0 * (1 : Nat)))).fst
 else (0 : Int)).tdiv
 (if nat_lit 0 + nat_lit 1 * (1 : Nat) < i then
 (evT (vD g) (exE d (nat_lit 0 + nat_lit 1 * (1 : Nat)))).fst
 else (0 : Int))) >
 (2147483647 : Int))) =
 false →
 IntKind.i64.wrap
 ((if nat_lit 0 + nat_lit 0 * (1 : Nat) < i then
 (evT (vD g) (exE d (nat_lit 0 + nat_lit 0 * (1 : Nat)))).fst
 else (0 : Int)).tdiv
 (if nat_lit 0 + nat_lit 1 * (1 : Nat) < i then
 (evT (vD g) (exE d (nat_lit 0 + nat_lit 1 * (1 : Nat)))).fst
 else (0 : Int))) =
 (evT (vD g) (ex k n v d)).fst ∧
 (0 : Int) = (evT (vD g) (ex k n v d)).snd)) ∧
 ((k == (7 : Int)) = false →
 (if nat_lit 0 + nat_lit 1 * (1 : Nat) < i then
 (evT (vD g) (exE d (nat_lit 0 + nat_lit 1 * (1 : Nat)))).fst
 else (0 : Int)) ≠
 (0 : Int) ∧
 ((decide
 ((if nat_lit 0 + nat_lit 0 * (1 : Nat) < i then
 (evT (vD g) (exE d (nat_lit 0 + nat_lit 0 * (1 : Nat)))).fst
 else (0 : Int)).tmod
 (if nat_lit 0 + nat_lit 1 * (1 : Nat) < i then
 (evT (vD g) (exE d (nat_lit 0 + nat_lit 1 * (1 : Nat)))).fst
 else (0 : Int)) <
 (-2147483648 : Int)) ||
 decide
 ((if nat_lit 0 + nat_lit 0 * (1 : Nat) < i then
 (evT (vD g) (exE d (nat_lit 0 + nat_lit 0 * (1 : Nat)))).fst
 else (0 : Int)).tmod
 (if nat_lit 0 + nat_lit 1 * (1 : Nat) < i then
 (evT (vD g) (exE d (nat_lit 0 + nat_lit 1 * (1 : Nat)))).fst
 else (0 : Int)) >
 (2147483647 : Int))) =
 true →
 (0 : Int) = (evT (vD g) (ex k n v d)).fst ∧ (2 : Int) = (evT (vD g) (ex k n v d)).snd) ∧
 ((decide
 ((if nat_lit 0 + nat_lit 0 * (1 : Nat) < i then
 (evT (vD g) (exE d (nat_lit 0 + nat_lit 0 * (1 : Nat)))).fst
 else (0 : Int)).tmod
 (if nat_lit 0 + nat_lit 1 * (1 : Nat) < i then
 (evT (vD g) (exE d (nat_lit 0 + nat_lit 1 * (1 : Nat)))).fst
 else (0 : Int)) <
 (-2147483648 : Int)) ||
 decide
 ((if nat_lit 0 + nat_lit 0 * (1 : Nat) < i then
 (evT (vD g) (exE d (nat_lit 0 + nat_lit 0 * (1 : Nat)))).fst
 else (0 : Int)).tmod
 (if nat_lit 0 + nat_lit 1 * (1 : Nat) < i then
 (evT (vD g) (exE d (nat_lit 0 + nat_lit 1 * (1 : Nat)))).fst
 else (0 : Int)) >
 (2147483647 : Int))) =
 false →
 (if nat_lit 0 + nat_lit 0 * (1 : Nat) < i then
 (evT (vD g) (exE d (nat_lit 0 + nat_lit 0 * (1 : Nat)))).fst
 else (0 : Int)).tmod
 (if nat_lit 0 + nat_lit 1 * (1 : Nat) < i then
 (evT (vD g) (exE d (nat_lit 0 + nat_lit 1 * (1 : Nat)))).fst
 else (0 : Int)) =
 (evT (vD g) (ex k n v d)).fst ∧
 (0 : Int) = (evT (vD g) (ex k n v d)).snd)))) ∧
 ((k == (7 : Int)) = false →
 (0 : Int) = (evT (vD g) (ex k n v d)).fst ∧ (0 : Int) = (evT (vD g) (ex k n v d)).snd)) ∧
 ((k == (7 : Int)) = false →
 ((k == (8 : Int)) = true →
 (((if nat_lit 0 + nat_lit 1 * (1 : Nat) < i then (evT (vD g) (exE d (nat_lit 0 + nat_lit 1 * (1 : Nat)))).fst
 else (0 : Int)) ==
 (0 : Int)) =
 true →
 (0 : Int) = (evT (vD g) (ex k n v d)).fst ∧ (3 : Int) = (evT (vD g) (ex k n v d)).snd) ∧
 (((if nat_lit 0 + nat_lit 1 * (1 : Nat) < i then (evT (vD g) (exE d (nat_lit 0 + nat_lit 1 * (1 : Nat)))).fst
 else (0 : Int)) ==
 (0 : Int)) =
 false →
 ((k == (7 : Int)) = true →
 (if nat_lit 0 + nat_lit 1 * (1 : Nat) < i then
 (evT (vD g) (exE d (nat_lit 0 + nat_lit 1 * (1 : Nat)))).fst
 else (0 : Int)) ≠
 (0 : Int) ∧
 ((decide
 (IntKind.i64.wrap
 ((if nat_lit 0 + nat_lit 0 * (1 : Nat) < i then
 (evT (vD g) (exE d (nat_lit 0 + nat_lit 0 * (1 : Nat)))).fst
 else (0 : Int)).tdiv
 (if nat_lit 0 + nat_lit 1 * (1 : Nat) < i then
 (evT (vD g) (exE d (nat_lit 0 + nat_lit 1 * (1 : Nat)))).fst
 else (0 : Int))) <
 (-2147483648 : Int)) ||
 decide
 (IntKind.i64.wrap
 ((if nat_lit 0 + nat_lit 0 * (1 : Nat) < i then
 (evT (vD g) (exE d (nat_lit 0 + nat_lit 0 * (1 : Nat)))).fst
 else (0 : Int)).tdiv
 (if nat_lit 0 + nat_lit 1 * (1 : Nat) < i then
 (evT (vD g) (exE d (nat_lit 0 + nat_lit 1 * (1 : Nat)))).fst
 else (0 : Int))) >
 (2147483647 : Int))) =
 true →
 (0 : Int) = (evT (vD g) (ex k n v d)).fst ∧ (2 : Int) = (evT (vD g) (ex k n v d)).snd) ∧
 ((decide
 (IntKind.i64.wrap
 ((if nat_lit 0 + nat_lit 0 * (1 : Nat) < i then
 (evT (vD g) (exE d (nat_lit 0 + nat_lit 0 * (1 : Nat)))).fst
 else (0 : Int)).tdiv
 (if nat_lit 0 + nat_lit 1 * (1 : Nat) < i then
 (evT (vD g) (exE d (nat_lit 0 + nat_lit 1 * (1 : Nat)))).fst
 else (0 : Int))) <
 (-2147483648 : Int)) ||
 decide
 (IntKind.i64.wrap
 ((if nat_lit 0 + nat_lit 0 * (1 : Nat) < i then
 (evT (vD g) (exE d (nat_lit 0 + nat_lit 0 * (1 : Nat)))).fst
 else (0 : Int)).tdiv
 (if nat_lit 0 + nat_lit 1 * (1 : Nat) < i then
 (evT (vD g) (exE d (nat_lit 0 + nat_lit 1 * (1 : Nat)))).fst
 else (0 : Int))) >
 (2147483647 : Int))) =
 false →
 IntKind.i64.wrap
 ((if nat_lit 0 + nat_lit 0 * (1 : Nat) < i then
 (evT (vD g) (exE d (nat_lit 0 + nat_lit 0 * (1 : Nat)))).fst
 else (0 : Int)).tdiv
 (if nat_lit 0 + nat_lit 1 * (1 : Nat) < i then
 (evT (vD g) (exE d (nat_lit 0 + nat_lit 1 * (1 : Nat)))).fst
 else (0 : Int))) =
 (evT (vD g) (ex k n v d)).fst ∧
 (0 : Int) = (evT (vD g) (ex k n v d)).snd)) ∧
 ((k == (7 : Int)) = false →
 (if nat_lit 0 + nat_lit 1 * (1 : Nat) < i then
 (evT (vD g) (exE d (nat_lit 0 + nat_lit 1 * (1 : Nat)))).fst
 else (0 : Int)) ≠
 (0 : Int) ∧
 ((decide
 ((if nat_lit 0 + nat_lit 0 * (1 : Nat) < i then
 (evT (vD g) (exE d (nat_lit 0 + nat_lit 0 * (1 : Nat)))).fst
 else (0 : Int)).tmod
 (if nat_lit 0 + nat_lit 1 * (1 : Nat) < i then
 (evT (vD g) (exE d (nat_lit 0 + nat_lit 1 * (1 : Nat)))).fst
 else (0 : Int)) <
 (-2147483648 : Int)) ||
 decide
 ((if nat_lit 0 + nat_lit 0 * (1 : Nat) < i then
 (evT (vD g) (exE d (nat_lit 0 + nat_lit 0 * (1 : Nat)))).fst
 else (0 : Int)).tmod
 (if nat_lit 0 + nat_lit 1 * (1 : Nat) < i then
 (evT (vD g) (exE d (nat_lit 0 + nat_lit 1 * (1 : Nat)))).fst
 else (0 : Int)) >
 (2147483647 : Int))) =
 true →
 (0 : Int) = (evT (vD g) (ex k n v d)).fst ∧ (2 : Int) = (evT (vD g) (ex k n v d)).snd) ∧
 ((decide
 ((if nat_lit 0 + nat_lit 0 * (1 : Nat) < i then
 (evT (vD g) (exE d (nat_lit 0 + nat_lit 0 * (1 : Nat)))).fst
 else (0 : Int)).tmod
 (if nat_lit 0 + nat_lit 1 * (1 : Nat) < i then
 (evT (vD g) (exE d (nat_lit 0 + nat_lit 1 * (1 : Nat)))).fst
 else (0 : Int)) <
 (-2147483648 : Int)) ||
 decide
 ((if nat_lit 0 + nat_lit 0 * (1 : Nat) < i then
 (evT (vD g) (exE d (nat_lit 0 + nat_lit 0 * (1 : Nat)))).fst
 else (0 : Int)).tmod
 (if nat_lit 0 + nat_lit 1 * (1 : Nat) < i then
 (evT (vD g) (exE d (nat_lit 0 + nat_lit 1 * (1 : Nat)))).fst
 else (0 : Int)) >
 (2147483647 : Int))) =
 false →
 (if nat_lit 0 + nat_lit 0 * (1 : Nat) < i then
 (evT (vD g) (exE d (nat_lit 0 + nat_lit 0 * (1 : Nat)))).fst
 else (0 : Int)).tmod
 (if nat_lit 0 + nat_lit 1 * (1 : Nat) < i then
 (evT (vD g) (exE d (nat_lit 0 + nat_lit 1 * (1 : Nat)))).fst
 else (0 : Int)) =
 (evT (vD g) (ex k n v d)).fst ∧
 (0 : Int) = (evT (vD g) (ex k n v d)).snd)))) ∧
 ((k == (8 : Int)) = false →
 (0 : Int) = (evT (vD g) (ex k n v d)).fst ∧ (0 : Int) = (evT (vD g) (ex k n v d)).snd)))))))))) (by kernel_rfl) ?_
    intro hm hT hg
    have e0 : ∀ i, ex (d.el i 0).toI (d.el i (0 + 1)).toI (d.el i (0 + 1 + 1)).toI (d.el i (0 + 1 + 1 + 1)) = exE d i := fun i => rfl
    simp only [e0]
    have hc := tm_cells hT
    have hd2 : d.len ≤ 2 := by omega
    refine ⟨⟨0, ⟨Nat.zero_le _, by omega, fun j hj => absurd hj (Nat.not_lt_zero j)⟩, rfl, trivial, trivial, trivial, fun o ho => rfl, trivial, trivial, trivial, trivial⟩, fun i hi => ⟨fun h => ?_, fun h => ?_⟩⟩
    · obtain ⟨i1, i2, i3⟩ := hi
      have h' : i < d.len ∧ i < 2 := by simp at h; omega
      have hk : Tm g.len (exE d i) := by
        rcases hc with hc | ⟨l, _, ha⟩ | ⟨l, _, _, ha, hb⟩
        · omega
        · have : i = 0 := by omega
          subst this; exact ha
        · have : i = 0 ∨ i = 1 := by omega
          rcases this with rfl | rfl
          · exact ha
          · exact hb
      have hz := el_lt (j := 0 + 1 + 1 + 1) h'.1
      simp only [Int.toNat_natCast]
      refine ⟨by omega, by omega, hk, hg, fun hb => ?_, fun hb => ⟨by omega, by omega, i + 1, ⟨by omega, by omega, fun j hj => ?_⟩, by omega, wr _ (by omega), trivial, trivial, trivial, fun o ho => ?_, trivial, trivial, trivial, trivial⟩⟩
      · have hb : (evT (vD g) (exE d i)).2 ≠ 0 := by simpa using hb
        have e : evT (vD g) (ex k n v d) = (0, (evT (vD g) (exE d i)).2) := by
          rcases hc with hc | ⟨l, _, ha⟩ | ⟨l, _, _, _, _⟩
          · omega
          · have : i = 0 := by omega
            subst this
            rw [ev_c1 _ _ _ _ l, opT_r rfl hb]
          · have : i = 0 ∨ i = 1 := by omega
            rcases this with rfl | rfl
            · rw [ev_c2 _ _ _ _ l, opT_l hb]
            · rw [ev_c2 _ _ _ _ l, opT_r (i3 0 (by omega)) hb]
        rw [e]; exact ⟨rfl, rfl⟩
      · have hb : (evT (vD g) (exE d i)).2 = 0 := by simpa using hb
        by_cases hji : j < i
        · exact i3 j hji
        · rw [show j = i by omega]; exact hb
      · simp only [Bool.and_eq_true, Nat.ble_eq, Nat.blt_eq]
        by_cases hoi : o = i
        · subst hoi; rw [if_pos (by omega), if_pos (by omega)]
        · rw [if_neg (by omega)]
          by_cases h3 : o < i
          · rw [if_pos h3, if_pos (by omega)]
          · rw [if_neg h3, if_neg (by omega)]
    · obtain ⟨i1, i2, i3⟩ := hi
      have h' : i = d.len := by simp at h; omega
      have z0 : 0 + 0 * 1 = 0 := rfl
      have z1 : 0 + 1 * 1 = 1 := rfl
      simp only [z0, z1]
      rcases hc with ⟨l, hk⟩ | ⟨l, rfl, ha⟩ | ⟨l, h4, h8, ha, hb⟩
      · rw [ev_c0 _ _ _ _ l]
        rcases hk with ⟨rfl, hn⟩ | ⟨rfl, hv⟩
        · simp only [if_true, Int.reduceBEq, Bool.false_eq_true, false_implies, true_implies, and_true, true_and, Bool.true_eq_false]
          simp; omega
        · have := hg v hv.1 hv.2
          have ev : (g.el v.toNat 0).toI = vD g v := rfl
          rw [if_neg (by decide), ev]
          simp only [Int.reduceBEq, Bool.false_eq_true, false_implies, true_implies, and_true, true_and, Bool.true_eq_false]
          simp; omega
      · have ra := ev_in hg ha
        have e0 := i3 0 (by omega)
        have q0 : 0 < i := by omega
        rw [ev_c1 _ _ _ _ l, opT_v rfl e0]
        simp only [if_pos q0]
        generalize evT (vD g) (exE d 0) = r at *
        simp only [Int.reduceBEq, Bool.false_eq_true, false_implies, true_implies, and_true, true_and, Bool.true_eq_false]
        have w : IntKind.i64.wrap (0 - r.1) = 0 - r.1 := wr _ (by omega)
        rw [w]
        have := opT_w (k := 5) (a := 0) (b := r.1) (x := 0 - r.1) rfl (by omega)
        exact ⟨fun c => by rw [this.1 c]; exact ⟨rfl, rfl⟩, fun c => by rw [this.2 c]; exact ⟨rfl, rfl⟩⟩
      · have ra := ev_in hg ha
        have rb := ev_in hg hb
        have e0 := i3 0 (by omega)
        have e1 := i3 1 (by omega)
        have q0 : 0 < i := by omega
        have q1 : 1 < i := by omega
        rw [ev_c2 _ _ _ _ l, opT_v e0 e1]
        simp only [if_pos q0, if_pos q1]
        generalize evT (vD g) (exE d 0) = r at *
        generalize evT (vD g) (exE d 1) = s at *
        obtain ⟨a, ea⟩ := r
        obtain ⟨b, eb⟩ := s
        dsimp only at *
        have fin : ∀ {k x : Int}, valP k a b = x → (k ≤ 6 ∨ b ≠ 0) → ((decide (x < -2147483648) || decide (x > 2147483647)) = true → 0 = (if errP k a b = 0 then (valP k a b, 0) else (0, errP k a b)).1 ∧ 2 = (if errP k a b = 0 then (valP k a b, 0) else (0, errP k a b)).2) ∧ ((decide (x < -2147483648) || decide (x > 2147483647)) = false → x = (if errP k a b = 0 then (valP k a b, 0) else (0, errP k a b)).1 ∧ 0 = (if errP k a b = 0 then (valP k a b, 0) else (0, errP k a b)).2) := fun h1 h2 => by
          have := opT_w h1 h2
          exact ⟨fun c => by rw [this.1 c]; exact ⟨rfl, rfl⟩, fun c => by rw [this.2 c]; exact ⟨rfl, rfl⟩⟩
        have z3 : ∀ {k : Int}, 7 ≤ k → (b == 0) = true → 0 = (if errP k a b = 0 then (valP k a b, 0) else (0, errP k a b)).1 ∧ 3 = (if errP k a b = 0 then (valP k a b, 0) else (0, errP k a b)).2 := fun {k} h7 c => by
          have c : b = 0 := by simpa using c
          have := errP_or k a b
          rw [if_neg (by omega)]
          exact ⟨rfl, by dsimp only; omega⟩
        have hk : k = 4 ∨ k = 5 ∨ k = 6 ∨ k = 7 ∨ k = 8 := by omega
        rcases hk with rfl | rfl | rfl | rfl | rfl <;> simp only [Int.reduceBEq, Bool.false_eq_true, false_implies, true_implies, and_true, true_and, Bool.true_eq_false]
        · rw [wr (a + b) (by omega)]; exact fin rfl (by omega)
        · rw [wr (a - b) (by omega)]; exact fin rfl (by omega)
        · rw [wr (a * b) (mul_big a b (by omega) (by omega) (by omega) (by omega))]; exact fin rfl (by omega)
        · have q := Int.natAbs_tdiv_le_natAbs a b
          rw [wr (a.tdiv b) (by omega)]
          exact ⟨z3 (by omega), fun c => ⟨by simpa using c, fin rfl (.inr (by simpa using c))⟩⟩
        · exact ⟨z3 (by omega), fun c => ⟨by simpa using c, fin (show a - a.tdiv b * b = a.tmod b by rw [Int.tmod_def, Int.mul_comm]) (.inr (by simpa using c))⟩⟩
  · trivial
theorem rev_ok : ConOK Tryz.prog 10 revC :=
  con_rec revM (fun _ _ => by kernel_rfl) fun m ih => by
    rw [rev_under] at ih ⊢
    exact rev_step m ih
end Go.Proofs.YtlgmofjjjhbgkaaGreat.Sx.Z
namespace Go.Proofs.YtlgmofjjjhbgkaaGreat.Sx.Z
open Go.RowKit
theorem pt_itv {n x : Int} {z : Zs} (g : Good n z) (hx : isVarP n x = true) {v : Nat → Int} (p : Pt n z v) : itvLo n z.1 z.2 x ≤ v (x + 1).toNat ∧ v (x + 1).toNat ≤ itvHi n z.1 z.2 x := by
  have hR := R_le n
  obtain ⟨ha, hax, ha1⟩ := isVar_R hx
  obtain ⟨e1, e2⟩ := itv_exact g p.1 hx
  have t3 := p.2.2 _ 0 ha (by omega)
  have t4 := p.2.2 0 _ (by omega) ha
  have z1 := p.2.1
  simp only [Nat.zero_mul, Nat.zero_add, Nat.add_zero] at t3 t4
  rw [e1, e2]
  exact ⟨by omega, by omega⟩
/-- A point is had. -/
theorem nhas_pt {n : Int} {z : Zs} (g : Good n z) {h : Nat → Int} (p : Pt n z (vz h)) {v : D} (hv : v.rows = (rowI n.toNat h).rows) : nhasP z.1 (itD n.toNat n z) n z.1 z.2 v = true := by
  have h0 := g.n0
  have hl : v.len = n.toNat := by rw [len_rows hv, rowI_len]
  have hL := itD_len n.toNat n z
  unfold nhasP
  rw [if_neg (by rw [p.1, hl, hL]; simp), Bool.and_eq_true]
  constructor
  · refine allJ_iff.2 fun j hj => ?_
    rw [hL] at hj
    obtain ⟨e1, e2⟩ := itD_el hj n z
    have hx : isVarP n (j : Int) = true := isVar_of h0 (by omega)
    obtain ⟨t1, t2⟩ := pt_itv g hx p
    have ev : (v.el j 0).toI = h j := by
      have := congrFun (ig_rows hv) j
      rw [ig_rowI _ _ hj] at this; exact this
    have ez : vz h ((j : Int) + 1).toNat = h j := by
      unfold vz
      rw [if_neg (by omega), show ((j : Int) + 1).toNat - 1 = j by omega]
    rw [ez] at t1 t2
    unfold hasJ
    rw [e1, e2, ev, Bool.and_eq_true]
    exact ⟨decide_eq_true t1, decide_eq_true t2⟩
  · rw [hl, ig_rows hv, has_congr fun q hq => ig_rowI n.toNat h hq]
    exact has_pt g (by omega) p
end Go.Proofs.YtlgmofjjjhbgkaaGreat.Sx.Z
namespace Go.Proofs.YtlgmofjjjhbgkaaGreat.Sx.Z
open Go.RowKit
/-- A number is one of what is told, or its error is told. -/
def Snd (r : IE) (t : Int × Int) : Prop := (t.2 = 0 → r.1.1 ≤ t.1 ∧ t.1 ≤ r.1.2) ∧ (t.2 = 2 → r.2.1 = true) ∧ (t.2 = 3 → r.2.2 = true)
theorem both_snd {l r : IE} {s t : Int × Int} (hl : Snd l s) (hr : Snd r t) : (s.2 = 0 → bothI l r = (l.1, r.1, tg l.2 r.2)) ∧ (s.2 = 2 → (bothI l r).2.2.1 = true) ∧ (s.2 = 3 → (bothI l r).2.2.2 = true) := by
  unfold bothI
  refine ⟨fun h => if_neg (by have := hl.1 h; omega), fun h => ?_, fun h => ?_⟩
  · have := hl.2.1 h
    split
    · exact this
    · show (l.2.1 || r.2.1) = true
      rw [this]; rfl
  · have := hl.2.2 h
    split
    · exact this
    · show (l.2.2 || r.2.2) = true
      rw [this]; rfl
/-- One operation of what may be, and of what is. -/
theorem do_snd {k : Int} (h4 : 4 ≤ k) (h8 : k ≤ 8) {l r : IE} {s t : Int × Int} (hl : Snd l s) (hr : Snd r t) (gl : Rg l.1) (gr : Rg r.1) (cs : s.2 = 0 ∨ s.2 = 2 ∨ s.2 = 3) (ct : t.2 = 0 ∨ t.2 = 2 ∨ t.2 = 3) : Snd (doE k (bothI l r)) (opT k s t) := by
  obtain ⟨b0, b2, b3⟩ := both_snd hl hr
  have tgl : ∀ {x y : Bool × Bool}, x.1 = true → (tg x y).1 = true := fun h => by unfold tg; rw [h]; rfl
  have tgl2 : ∀ {x y : Bool × Bool}, x.2 = true → (tg x y).2 = true := fun h => by unfold tg; rw [h]; rfl
  have tgr : ∀ {x y : Bool × Bool}, y.1 = true → (tg x y).1 = true := fun h => by unfold tg; rw [h]; simp
  have tgr2 : ∀ {x y : Bool × Bool}, y.2 = true → (tg x y).2 = true := fun h => by unfold tg; rw [h]; simp
  by_cases hs : s.2 = 0
  · by_cases ht : t.2 = 0
    · have e := b0 hs
      have ls := hl.1 hs
      have rs := hr.1 ht
      have nd : ¬ NoDo k l.1 r.1 := by unfold NoDo; omega
      have ok := (doI_ok nd gl gr).2
      have en := errP_or k s.1 t.1
      rw [opT_v hs ht, e]
      unfold doE
      dsimp only
      refine ⟨fun h => ?_, fun h => ?_, fun h => ?_⟩
      · by_cases h0 : errP k s.1 t.1 = 0
        · rw [if_pos h0]; exact ok.has _ _ ls.1 ls.2 rs.1 rs.2 h0
        · rw [if_neg h0] at h; exact absurd h h0
      · by_cases h0 : errP k s.1 t.1 = 0
        · rw [if_pos h0] at h; dsimp only at h; omega
        · rw [if_neg h0] at h; exact tgr (ok.over _ _ ls.1 ls.2 rs.1 rs.2 h)
      · by_cases h0 : errP k s.1 t.1 = 0
        · rw [if_pos h0] at h; dsimp only at h; omega
        · rw [if_neg h0] at h
          dsimp only at h
          refine tgr2 ?_
          rw [ok.zero]
          simp; omega
    · have e := b0 hs
      rw [opT_r hs ht, e]
      unfold doE
      dsimp only
      exact ⟨fun h => absurd h ht, fun h => tgl (tgr (hr.2.1 h)), fun h => tgl2 (tgr2 (hr.2.2 h))⟩
  · rw [opT_l hs]
    unfold doE
    exact ⟨fun h => absurd h hs, fun h => tgl (b2 h), fun h => tgl2 (b3 h)⟩
theorem snd_0 : Snd ((0, 0), (false, false)) (0, 0) := ⟨fun _ => ⟨Int.le_refl _, Int.le_refl _⟩, fun h => (by cases h), fun h => (by cases h)⟩
theorem rec_snd {w : Int} {I : D} {g : Int → Int} (hw : w = I.len) (hI : RgI I) (hg : InV w g) (hv : ∀ v, 0 ≤ v → v < w → (prI I v).1 ≤ g v ∧ g v ≤ (prI I v).2) {e : Xp} (h : Tm w e) : Snd (recP I e) (evT g e) := by
  induction h with
  | num n h0 h1 =>
    rw [rec_0, if_pos rfl, ev_0, if_pos rfl, of_nn (by omega)]
    exact ⟨fun _ => ⟨Int.le_refl _, Int.le_refl _⟩, fun h => (by cases h), fun h => (by cases h)⟩
  | var v h0 h1 =>
    rw [rec_0, if_neg (by decide), if_pos ⟨rfl, h0, by omega⟩, ev_0, if_neg (by decide)]
    exact ⟨fun _ => hv v h0 h1, fun h => (by cases h), fun h => (by cases h)⟩
  | neg a ha ih =>
    rw [rec_1, ev_1, neg_eq]
    exact do_snd (by omega) (by omega) snd_0 ih (.inr (by decide)) (rec_rg hI a) (.inl rfl) (ev_in hg ha).1
  | bin k a b h4 h8 ha hb ia ib =>
    rw [rec_2 _ _ h4, ev_2]
    exact do_snd h4 h8 ia ib (rec_rg hI a) (rec_rg hI b) (ev_in hg ha).1 (ev_in hg hb).1
end Go.Proofs.YtlgmofjjjhbgkaaGreat.Sx.Z
namespace Go.Proofs.YtlgmofjjjhbgkaaGreat.Sx.Z
open Go.RowKit
theorem pt_itvI {n : Int} {z : Zs} (g : Good n z) {h : Nat → Int} (p : Pt n z (vz h)) {v : Int} (hv : 0 ≤ v ∧ v < n) : itvLo n z.1 z.2 v ≤ gI h v ∧ gI h v ≤ itvHi n z.1 z.2 v := by
  have hx := isVar_of g.n0 hv
  have hR := R_le n
  obtain ⟨a, b, c⟩ := isVar_R hx
  obtain ⟨e1, e2⟩ := itv_exact g p.1 hx
  have t1 := p.2.2 (v + 1).toNat 0 a (by omega)
  have t2 := p.2.2 0 (v + 1).toNat (by omega) a
  have e3 := vz_end h (y := v) (by omega)
  rw [if_neg (by omega)] at e3
  have e0 : vz h 0 = 0 := rfl
  rw [e3, e0] at t1 t2
  simp only [Nat.zero_mul, Nat.zero_add, Nat.add_zero] at t1 t2
  rw [e1, e2]
  omega
section
variable {n : Int} {z : Zs} {h : Nat → Int} (g : Good n z) (h1 : 1 ≤ n) (hg : InV n (gI h)) {e : Xp} (ht : Tm n e)
include g h1 hg ht
theorem eva_snd (p : Pt n z (vz h)) : Snd (recP (itD n.toNat n z) e) (evT (gI h) e) := by
  have h0 := g.n0
  refine rec_snd (w := n) (by rw [itD_len]; omega) (itD_rg h0 z) hg (fun v v0 v1 => ?_) ht
  rw [itD_pr (by omega)]
  exact pt_itvI g p ⟨v0, v1⟩
end
end Go.Proofs.YtlgmofjjjhbgkaaGreat.Sx.Z
namespace Go.Proofs.YtlgmofjjjhbgkaaGreat.Sx.Z
open Go.RowKit
def hP (op a b : Int) : Bool := if op = 1 then a == b else if op = 2 then a != b else if op = 3 then decide (a < b) else if op = 4 then decide (a ≤ b) else if op = 5 then decide (a > b) else (op == 6) && decide (a ≥ b)
def hldT (op : Int) (s t : Int × Int) : Bool × Int := if s.2 ≠ 0 then (false, s.2) else if t.2 ≠ 0 then (false, t.2) else (hP op s.1 t.1, 0)
theorem of_has {a b c : Int} (h : a ≤ c ∧ c ≤ b) (hc : -2147483648 ≤ c ∧ c ≤ 2147483647) : ofLo a b ≤ c ∧ c ≤ ofHi a b := by
  have := ofI_cases a b
  unfold ofI at this
  rcases this with ⟨h1, _⟩ | ⟨h1, e⟩
  · exfalso; omega
  · obtain ⟨e1, e2⟩ := Prod.mk.inj e
    rw [e1, e2]; omega
theorem tst_has {op : Int} (h16 : 1 ≤ op ∧ op ≤ 6) {L R : Int × Int} {a b : Int} (hL : L.1 ≤ a ∧ a ≤ L.2) (hR : R.1 ≤ b ∧ b ≤ R.2) (ha : -2147483648 ≤ a ∧ a ≤ 2147483647) (hb : -2147483648 ≤ b ∧ b ≤ 2147483647) (h : hP op a b = true) : ((tstI op L R).1.1 ≤ a ∧ a ≤ (tstI op L R).1.2) ∧ (tstI op L R).2.1 ≤ b ∧ b ≤ (tstI op L R).2.2 := by
  have nE : ¬ (L.2 < L.1 ∨ R.2 < R.1) := by omega
  have un : ∀ {A B : Int × Int} {a b : Int}, (A.1 ≤ a ∧ a ≤ A.2) → (B.1 ≤ b ∧ b ≤ B.2) → (-2147483648 ≤ a ∧ a ≤ 2147483647) → a ≠ b → (unlI A B).1 ≤ a ∧ a ≤ (unlI A B).2 := fun {A B a b} hA hB ha hab => by
    unfold unlI
    split
    · exact of_has (by omega) ha
    · split
      · exact of_has (by omega) ha
      · exact of_has (by omega) ha
  have ud : ∀ {A B : Int × Int} {a b n : Int}, (A.1 ≤ a ∧ a ≤ A.2) → (B.1 ≤ b ∧ b ≤ B.2) → (-2147483648 ≤ a ∧ a ≤ 2147483647) → (-2147483648 ≤ b ∧ b ≤ 2147483647) → a + n ≤ b → ((undI A B n).1.1 ≤ a ∧ a ≤ (undI A B n).1.2) ∧ (undI A B n).2.1 ≤ b ∧ b ≤ (undI A B n).2.2 := fun {A B a b n} hA hB ha hb hn => by
    unfold undI
    exact ⟨of_has (by omega) ha, of_has (by omega) hb⟩
  have ho : op = 1 ∨ op = 2 ∨ op = 3 ∨ op = 4 ∨ op = 5 ∨ op = 6 := by omega
  unfold tstI
  rw [if_neg nE]
  rcases ho with rfl | rfl | rfl | rfl | rfl | rfl
  · have h : a = b := by simpa [hP] using h
    subst h
    have : (meetI L R).1 ≤ a ∧ a ≤ (meetI L R).2 := of_has (by omega) ha
    exact ⟨this, this⟩
  · have h : a ≠ b := by simpa [hP] using h
    exact ⟨un hL hR ha h, un hR hL hb (Ne.symm h)⟩
  · have h : a < b := by simpa [hP] using h
    exact ud (n := 1) hL hR ha hb (by omega)
  · have h : a ≤ b := by simpa [hP] using h
    exact ud (n := 0) hL hR ha hb (by omega)
  · have h : a > b := by simpa [hP] using h
    have := ud (n := 1) hR hL hb ha (by omega)
    exact ⟨this.2, this.1⟩
  · have h : a ≥ b := by simpa [hP] using h
    have := ud (n := 0) hR hL hb ha (by omega)
    exact ⟨this.2, this.1⟩
theorem of_no {a b : Int} (h : b < a) : ofHi a b < ofLo a b := by
  have := ofI_cases a b
  unfold ofI at this
  rcases this with ⟨h1, e⟩ | ⟨h1, e⟩
  · obtain ⟨e1, e2⟩ := Prod.mk.inj e
    rw [e1, e2]; decide
  · exfalso; omega
theorem tst_no {op : Int} (h16 : 1 ≤ op ∧ op ≤ 6) {a b : Int} (h : hP op a b = false) : (tstI op (a, a) (b, b)).1.2 < (tstI op (a, a) (b, b)).1.1 ∨ (tstI op (a, a) (b, b)).2.2 < (tstI op (a, a) (b, b)).2.1 := by
  have ho : op = 1 ∨ op = 2 ∨ op = 3 ∨ op = 4 ∨ op = 5 ∨ op = 6 := by omega
  unfold tstI
  rw [if_neg (by dsimp only; omega)]
  rcases ho with rfl | rfl | rfl | rfl | rfl | rfl
  · have h : a ≠ b := by simpa [hP] using h
    exact .inl (of_no (a := max a b) (b := min a b) (by omega))
  · have h : a = b := by simpa [hP] using h
    subst h
    refine .inl ?_
    show (unlI (a, a) (a, a)).2 < (unlI (a, a) (a, a)).1
    unfold unlI
    rw [if_pos ⟨rfl, rfl⟩]
    exact of_no (a := a + 1) (b := a) (by omega)
  · have h : ¬ a < b := by simpa [hP] using h
    exact .inl (of_no (a := a) (b := min a (b - 1)) (by omega))
  · have h : ¬ a ≤ b := by simpa [hP] using h
    exact .inl (of_no (a := a) (b := min a (b - 0)) (by omega))
  · have h : ¬ a > b := by simpa [hP] using h
    exact .inr (of_no (a := b) (b := min b (a - 1)) (by omega))
  · have h : ¬ a ≥ b := by simpa [hP] using h
    exact .inr (of_no (a := b) (b := min b (a - 0)) (by omega))
theorem good_bd {n op x y b : Int} {z : Zs} (g : Good n z) : Good n (bdZ n op x y b z) := by
  unfold bdZ
  (repeat' split) <;> first | exact good_bnd (good_bnd g _ _ _) _ _ _ | exact good_bnd g _ _ _ | exact g
theorem bd_in {n op x y b s t : Int} {z : Zs} (g : Good n z) (hx : isEndP n x = true) (hy : isEndP n y = true) {v : Nat → Int} (p : Pt n z v) (h : hP op s t = true) (e : v (x + 1).toNat - v (y + 1).toNat - b = s - t) : Pt n (bdZ n op x y b z) v := by
  unfold hP at h
  unfold bdZ
  split
  · rename_i o; rw [if_pos o] at h
    have h : s = t := by simpa using h
    exact (bnd_pt (good_bnd g _ _ _) hy hx v).2 ⟨(bnd_pt g hx hy v).2 ⟨p, by omega⟩, by omega⟩
  · rename_i o1; rw [if_neg o1] at h
    split
    · rename_i o; rw [if_neg (by omega), if_pos o] at h
      have h : s < t := by simpa using h
      exact (bnd_pt g hx hy v).2 ⟨p, by omega⟩
    · rename_i o3
      split
      · rename_i o; rw [if_neg (by omega), if_neg o3, if_pos o] at h
        have h : s ≤ t := by simpa using h
        exact (bnd_pt g hx hy v).2 ⟨p, by omega⟩
      · rename_i o4
        split
        · rename_i o; rw [if_neg (by omega), if_neg o3, if_neg o4, if_pos o] at h
          have h : s > t := by simpa using h
          exact (bnd_pt g hy hx v).2 ⟨p, by omega⟩
        · rename_i o5
          split
          · rename_i o; rw [if_neg (by omega), if_neg o3, if_neg o4, if_neg o5] at h
            have h : s ≥ t := by simp at h; omega
            exact (bnd_pt g hy hx v).2 ⟨p, by omega⟩
          · exact p
theorem good_hld {n : Int} {z : Zs} (g : Good n z) {L R : Xp} {op : Int} {s t : Int × Int} : Good n (hldZ n op L R s t z) := by
  unfold hldZ
  generalize linP L = l
  generalize linP R = r
  rcases l with _ | ⟨x, m⟩ <;> rcases r with _ | ⟨y, b⟩
  · exact g
  · exact good_met g _ _ _
  · exact good_met g _ _ _
  · dsimp only
    split
    · exact good_bd (good_met (good_met g _ _ _) _ _ _)
    · exact good_met (good_met g _ _ _) _ _ _
theorem good_asm {n : Int} {z : Zs} (g : Good n z) {L R : Xp} {op : Int} : Good n (asmZ n op L R z).1 := by
  unfold asmZ asmB asmT
  split
  · exact good_none g.n0 true
  · split
    · exact good_none g.n0 true
    · exact good_hld g
section
variable {n : Int} {z : Zs} (g : Good n z) (h1 : 1 ≤ n) {L R : Xp} (hL : Tm n L) (hR : Tm n R)
include g h1 hL hR
theorem hld_in {h : Nat → Int} (hg : InV n (gI h)) (p : Pt n z (vz h)) {op : Int} {s t : Int × Int} (e0 : (evT (gI h) L).2 = 0) (f0 : (evT (gI h) R).2 = 0) (hs : s.1 ≤ (evT (gI h) L).1 ∧ (evT (gI h) L).1 ≤ s.2) (ht : t.1 ≤ (evT (gI h) R).1 ∧ (evT (gI h) R).1 ≤ t.2) (hh : hP op (evT (gI h) L).1 (evT (gI h) R).1 = true) : Pt n (hldZ n op L R s t z) (vz h) := by
  have h0 := g.n0
  have lL := (lin_same h1 hL).2
  have lR := (lin_same h1 hR).2
  have vL := @lin_ev n h1 (gI h) hg L hL
  have vR := @lin_ev n h1 (gI h) hg R hR
  unfold hldZ
  generalize linP L = l at *
  generalize linP R = r at *
  generalize evT (gI h) L = eL at *
  generalize evT (gI h) R = eR at *
  have mt : ∀ {z : Zs} {x m a : Int} {s : Int × Int}, Good n z → Pt n z (vz h) → (-1 ≤ x ∧ x < n) → a = (if x = -1 then 0 else gI h x) + m → (s.1 ≤ a ∧ a ≤ s.2) → Pt n (metZ n x (s.1 - m) (s.2 - m) z) (vz h) := fun {z x m a s} gz pz hx ea hs => by
    refine met_in gz (isEnd_of h0 hx) pz fun x0 => ?_
    rw [vz_end h hx.1, if_neg (by omega)]
    rw [if_neg (by omega)] at ea
    exact of_has (by omega) (hg x x0 hx.2)
  rcases l with _ | ⟨x, m⟩ <;> rcases r with _ | ⟨y, b⟩
  · exact p
  · have := lR y b rfl
    exact mt g p (by omega) (vR rfl f0) ht
  · have := lL x m rfl
    exact mt g p (by omega) (vL rfl e0) hs
  · have rx := lL x m rfl
    have ry := lR y b rfl
    have ex := isEnd_of h0 (x := x) (by omega)
    have ey := isEnd_of h0 (x := y) (by omega)
    have g1 := good_met g x (s.1 - m) (s.2 - m)
    have g2 := good_met g1 y (t.1 - b) (t.2 - b)
    have a1 := vL rfl e0
    have a2 := vR rfl f0
    have p1 := mt g p (by omega) a1 hs
    have p2 := mt g1 p1 (by omega) a2 ht
    dsimp only
    split
    · refine bd_in g2 ex ey p2 hh ?_
      rw [vz_end h (by omega), vz_end h (by omega)]
      omega
    · exact p2
theorem asm_in {h : Nat → Int} (hg : InV n (gI h)) (p : Pt n z (vz h)) {op : Int} (h16 : 1 ≤ op ∧ op ≤ 6) (hh : hldT op (evT (gI h) L) (evT (gI h) R) = (true, 0)) : Pt n (asmZ n op L R z).1 (vz h) := by
  have sL := eva_snd g h1 hg hL p
  have sR := eva_snd g h1 hg hR p
  have iL := ev_in hg hL
  have iR := ev_in hg hR
  have e0 : (evT (gI h) L).2 = 0 := by
    by_cases q : (evT (gI h) L).2 = 0
    · exact q
    · unfold hldT at hh; rw [if_pos q] at hh; cases hh
  have f0 : (evT (gI h) R).2 = 0 := by
    by_cases q : (evT (gI h) R).2 = 0
    · exact q
    · unfold hldT at hh; rw [if_neg (by omega), if_pos q] at hh; cases hh
  have hp : hP op (evT (gI h) L).1 (evT (gI h) R).1 = true := by
    unfold hldT at hh; rw [if_neg (by omega), if_neg (by omega)] at hh; exact congrArg Prod.fst hh
  have bb := (both_snd sL sR).1 e0
  have tt := tst_has h16 (sL.1 e0) (sR.1 f0) iL.2.2 iR.2.2 hp
  unfold asmZ asmB asmT
  rw [if_neg (by rw [p.1]; simp), bb]
  dsimp only
  rw [if_neg (by omega)]
  exact hld_in g h1 hL hR hg p e0 f0 tt.1 tt.2 hp
theorem asm_alone {h : Nat → Int} (hg : InV n (gI h)) (s : Sg n z (vz h)) {op : Int} (h16 : 1 ≤ op ∧ op ≤ 6) : (asmZ n op L R z).1.1 = (decide ((hldT op (evT (gI h) L) (evT (gI h) R)).2 ≠ 0) || !(hldT op (evT (gI h) L) (evT (gI h) R)).1) ∧ (asmZ n op L R z).2 = (decide ((hldT op (evT (gI h) L) (evT (gI h) R)).2 = 2), decide ((hldT op (evT (gI h) L) (evT (gI h) R)).2 = 3)) := by
  have aL := eva_alone g h1 hg hL s
  have aR := eva_alone g h1 hg hR s
  have ain := @asm_in n z g h1 L R hL hR h hg s.2.1 op h16
  have iL := ev_in hg hL
  have iR := ev_in hg hR
  generalize hA : asmZ n op L R z = A at *
  unfold asmZ asmB asmT at hA
  rw [if_neg (by rw [s.2.1.1]; simp), aL, aR] at hA
  generalize evT (gI h) L = l at *
  generalize evT (gI h) R = r at *
  have tn : ∀ x : Bool × Bool, tg (false, false) x = x := fun x => by unfold tg; simp
  have te : tstI op (1, 0) (1, 0) = ((1, 0), (1, 0)) := by unfold tstI; rw [if_pos (.inl (by decide))]
  by_cases ql : l.2 = 0
  · have el : alone l = ((l.1, l.1), (false, false)) := by unfold alone; rw [if_pos ql, ql]; rfl
    rw [el] at hA
    by_cases qr : r.2 = 0
    · have er : alone r = ((r.1, r.1), (false, false)) := by unfold alone; rw [if_pos qr, qr]; rfl
      have eb : bothI ((l.1, l.1), (false, false)) ((r.1, r.1), (false, false)) = ((l.1, l.1), (r.1, r.1), (false, false)) := by unfold bothI; rw [if_neg (by dsimp only; omega)]; rfl
      have eh : hldT op l r = (hP op l.1 r.1, 0) := (if_neg (by omega)).trans (if_neg (by omega))
      rw [er, eb] at hA
      rw [eh] at ain ⊢
      dsimp only at hA ⊢
      cases hp : hP op l.1 r.1 with
      | true =>
        rw [hp] at ain
        have pa := ain rfl
        have tt := tst_has h16 (L := (l.1, l.1)) (R := (r.1, r.1)) (a := l.1) (b := r.1) ⟨Int.le_refl _, Int.le_refl _⟩ ⟨Int.le_refl _, Int.le_refl _⟩ iL.2.2 iR.2.2 hp
        rw [if_neg (by omega)] at hA
        exact ⟨pa.1, by rw [← hA]; rfl⟩
      | false =>
        rw [if_pos (tst_no h16 hp)] at hA
        rw [← hA]; exact ⟨rfl, rfl⟩
    · have er : alone r = ((1, 0), (decide (r.2 = 2), decide (r.2 = 3))) := by unfold alone; rw [if_neg qr]
      have eb : bothI ((l.1, l.1), (false, false)) ((1, 0), (decide (r.2 = 2), decide (r.2 = 3))) = ((l.1, l.1), (1, 0), (decide (r.2 = 2), decide (r.2 = 3))) := by unfold bothI; rw [if_neg (by dsimp only; omega), tn]
      have eh : hldT op l r = (false, r.2) := (if_neg (by omega)).trans (if_pos qr)
      have et : tstI op (l.1, l.1) (1, 0) = ((1, 0), (1, 0)) := by unfold tstI; rw [if_pos (.inr (by decide))]
      rw [er, eb] at hA
      dsimp only at hA
      rw [et, if_pos (.inl (by decide))] at hA
      rw [← hA, eh]; exact ⟨by simp, rfl⟩
  · have el : alone l = ((1, 0), (decide (l.2 = 2), decide (l.2 = 3))) := by unfold alone; rw [if_neg ql]
    have eb : bothI ((1, 0), (decide (l.2 = 2), decide (l.2 = 3))) (alone r) = ((1, 0), (1, 0), (decide (l.2 = 2), decide (l.2 = 3))) := by unfold bothI; rw [if_pos (show (0 : Int) < 1 by decide)]
    have eh : hldT op l r = (false, l.2) := if_pos ql
    rw [el, eb] at hA
    dsimp only at hA
    rw [te, if_pos (.inl (by decide))] at hA
    rw [← hA, eh]; exact ⟨by simp, rfl⟩
end
end Go.Proofs.YtlgmofjjjhbgkaaGreat.Sx.Z
namespace Go.Proofs.YtlgmofjjjhbgkaaGreat.Sx.Z
open Go.RowKit
/-- The law's number, and its operation. -/
def nbW (w : Nat → Int) : Int := IntKind.i64.wrap ((IntKind.u32.wrap (w 0)).tmod 2147483648)
def kiD (nb : Int) : D := .l [[D.i 2, D.i 0, D.i 0, D.l []], [D.i 1, D.i nb, D.i 0, D.l []]]
def edR (k nb : Int) (i : Nat) : List D := if i = 0 then [D.i 0, D.i 1, D.i 1, D.i 1, D.i 0, D.i 0, D.i k, D.i 0, D.i 0, kiD nb, D.i 0, D.i 0, D.i 0, D.i 0, D.l [], D.i 0, D.i 0, D.i 0, D.l []] else [D.i 0, D.i 1, D.i 5, D.i 0, D.i 0, D.i 0, D.i 0, D.i 0, D.i 0, D.l [], D.i 3, D.i 2, D.i 0, D.i 0, D.l [], D.i 2, D.i 0, D.i 1, D.l []]
def edRs (k nb : Int) : D := .l [edR k nb 0, edR k nb 1]
def vvD (v : Nat → Int) : D := .l [[D.i (v 0)], [D.i (v 1)]]
def rwV (v : Nat → Int) : Zs := rowZ 2 (two (v 0) (v 1)) 2
theorem ev_kid (g : Int → Int) (k nb : Int) : evT g (ex k 0 0 (kiD nb)) = opT k (g 0, 0) (nb, 0) := by
  rw [ev_c2 g k 0 0 (rfl : (kiD nb).len = 2)]
  show opT k (evT g (ex 2 0 0 (.l []))) (evT g (ex 1 nb 0 (.l []))) = _
  rw [ex_nil, ex_nil, ev_0, ev_0, if_neg (by decide), if_pos rfl]
theorem tm_kid {k nb : Int} (hk : 4 ≤ k ∧ k ≤ 8) (hb : 0 ≤ nb ∧ nb ≤ 2147483647) : Tm 2 (ex k 0 0 (kiD nb)) := by
  show Tm 2 (.mk k 0 0 (exs (kiD nb)))
  rw [exs_two (rfl : (kiD nb).len = 2)]
  show Tm 2 (.mk k 0 0 [ex 2 0 0 (.l []), ex 1 nb 0 (.l [])])
  rw [ex_nil, ex_nil]
  exact Tm.bin k _ _ hk.1 hk.2 (Tm.var 0 (by omega) (by omega)) (Tm.num nb hb.1 hb.2)
theorem nhas_two {z : Zs} {a b c m : Int} (g : Good 2 z) (p : Pt 2 z (vz (upd (two a b) 1 m))) (hc : c = a) : nhasP z.1 (itD 2 2 z) 2 z.1 z.2 (.l [[.i c], [.i m]]) = true := by
  subst hc
  exact nhas_pt g p rfl
/-- The error that there is. -/
def erV (k nb : Int) (v : Nat → Int) (i : Nat) : Int := if i = 1 then (if v 0 ≥ v 1 then 1 else 0) else (opT k (v 0, 0) (nb, 0)).2
def mV (k nb : Int) (v : Nat → Int) (i : Nat) : Int := if i = 1 then v 1 else (opT k (v 0, 0) (nb, 0)).1
theorem err_facts {v : Nat → Int} (hv : ∀ j, j < 2 → -2147483648 ≤ v j ∧ v j ≤ 2147483647) {k nb : Int} (hk : 4 ≤ k ∧ k ≤ 8) (hb : 0 ≤ nb ∧ nb ≤ 2147483647) {i : Nat} (hi : i < 2) :
    (erV k nb v i > 0 → (stpZ (grD [edR k nb i]) 0 0 2 (rwV v)).1 = true ∧ stpK (grD [edR k nb i]) 0 0 2 (rwV v) = .l [[.i (erV k nb v i)]]) ∧
    (¬ erV k nb v i > 0 → (stpZ (grD [edR k nb i]) 0 0 2 (rwV v)).1 = false ∧ stpK (grD [edR k nb i]) 0 0 2 (rwV v) = .l [] ∧ nhasP (stpZ (grD [edR k nb i]) 0 0 2 (rwV v)).1 (itD 2 2 (stpZ (grD [edR k nb i]) 0 0 2 (rwV v))) 2 (stpZ (grD [edR k nb i]) 0 0 2 (rwV v)).1 (stpZ (grD [edR k nb i]) 0 0 2 (rwV v)).2 (.l [[.i (v 0)], [.i (mV k nb v i)]]) = true) := by
  have s : Sg 2 (rwV v) (vz (two (v 0) (v 1))) := row_all (n := 2) (by omega) (two_in (hv 0 (by omega)) (hv 1 (by omega)))
  have hg : InV 2 (gI (two (v 0) (v 1))) := fun x h0 h1 => two_in (hv 0 (by omega)) (hv 1 (by omega)) _ (by omega)
  have hi : i = 0 ∨ i = 1 := by omega
  rcases hi with rfl | rfl
  · obtain ⟨a, b, c⟩ := asg_one (by omega) hg (tm_kid hk hb) s (x := 1) (by omega)
    have d := ev_in hg (tm_kid hk hb)
    have hZ : stpZ (grD [edR k nb 0]) 0 0 2 (rwV v) = asgZ 2 1 (ex k 0 0 (kiD nb)) (rwV v) := rfl
    have hK : stpK (grD [edR k nb 0]) 0 0 2 (rwV v) = kE (.l []) (evaP (2 : Int).toNat 2 (rwV v) (ex k 0 0 (kiD nb))).2 := rfl
    have e0 : erV k nb v 0 = (opT k (v 0, 0) (nb, 0)).2 := rfl
    have m0 : mV k nb v 0 = (opT k (v 0, 0) (nb, 0)).1 := rfl
    have ev : evT (gI (two (v 0) (v 1))) (ex k 0 0 (kiD nb)) = opT k (v 0, 0) (nb, 0) := ev_kid _ _ _
    rw [ev] at a b c d
    rw [hZ, hK, a, e0, m0]
    generalize opT k (v 0, 0) (nb, 0) = t at b c d
    obtain ⟨t1, t2⟩ := t
    dsimp only at b c d ⊢
    refine ⟨fun h => ?_, fun h => ?_⟩
    · have hz := c (by omega)
      rw [hz]
      refine ⟨rfl, ?_⟩
      have : t2 = 2 ∨ t2 = 3 := by omega
      rcases this with rfl | rfl <;> rfl
    · have ht : t2 = 0 := by omega
      subst ht
      have sg := b rfl
      refine ⟨sg.2.1.1, rfl, ?_⟩
      exact nhas_two sg.1 sg.2.1 rfl
  · have tL : Tm 2 (ex 2 0 0 (.l [])) := by rw [ex_nil]; exact Tm.var 0 (by omega) (by omega)
    have tR : Tm 2 (ex 2 0 1 (.l [])) := by rw [ex_nil]; exact Tm.var 1 (by omega) (by omega)
    have eL : evT (gI (two (v 0) (v 1))) (ex 2 0 0 (.l [])) = (v 0, 0) := by rw [ex_nil, ev_0, if_neg (by decide)]; rfl
    have eR : evT (gI (two (v 0) (v 1))) (ex 2 0 1 (.l [])) = (v 1, 0) := by rw [ex_nil, ev_0, if_neg (by decide)]; rfl
    obtain ⟨a3, b3⟩ := asm_alone s.1 (by omega) tL tR hg s (op := 3) (by omega)
    obtain ⟨a6, b6⟩ := asm_alone s.1 (by omega) tL tR hg s (op := 6) (by omega)
    have ain := asm_in (z := rwV v) s.1 (by omega) tL tR hg s.2.1 (op := 3) (by omega)
    have gd := good_asm s.1 (L := ex 2 0 0 (.l [])) (R := ex 2 0 1 (.l [])) (op := 3)
    rw [eL, eR] at a3 b3 a6 b6 ain
    have h3 : hldT 3 (v 0, 0) (v 1, 0) = (decide (v 0 < v 1), 0) := rfl
    have h6 : hldT 6 (v 0, 0) (v 1, 0) = (decide (v 0 ≥ v 1), 0) := rfl
    rw [h3] at a3 b3 ain
    rw [h6] at a6 b6
    have hZ : stpZ (grD [edR k nb 1]) 0 0 2 (rwV v) = (asmZ 2 3 (ex 2 0 0 (.l [])) (ex 2 0 1 (.l [])) (rwV v)).1 := rfl
    have hK : stpK (grD [edR k nb 1]) 0 0 2 (rwV v) = kE (kD (.l []) 1 (!(asmZ 2 6 (ex 2 0 0 (.l [])) (ex 2 0 1 (.l [])) (rwV v)).1.1)) (asmZ 2 3 (ex 2 0 0 (.l [])) (ex 2 0 1 (.l [])) (rwV v)).2 := rfl
    have e1 : erV k nb v 1 = if v 0 ≥ v 1 then 1 else 0 := rfl
    have m1 : mV k nb v 1 = v 1 := rfl
    rw [hZ, hK, a6, b3, e1, m1]
    by_cases h : v 0 ≥ v 1
    · have h' : ¬ v 0 < v 1 := by omega
      rw [if_pos h]
      refine ⟨fun _ => ⟨by rw [a3]; simp [h'], ?_⟩, fun hh => absurd (by decide) hh⟩
      have hd : decide (v 0 ≥ v 1) = true := decide_eq_true h
      rw [hd]
      rfl
    · have h' : v 0 < v 1 := by omega
      rw [if_neg h]
      refine ⟨fun hh => absurd hh (by decide), fun _ => ⟨by rw [a3]; simp [h'], ?_, ?_⟩⟩
      · have hd : decide (v 0 ≥ v 1) = false := decide_eq_false h
        rw [hd]
        rfl
      · have p := ain (by rw [decide_eq_true h'])
        have eu : upd (two (v 0) (v 1)) 1 (v 1) = two (v 0) (v 1) := funext fun q => by
          by_cases hq : q = 1
          · subst hq; exact upd_at _ _ _
          · exact upd_ne hq
        rw [← eu] at p
        exact nhas_two gd p rfl
end Go.Proofs.YtlgmofjjjhbgkaaGreat.Sx.Z
namespace Go.Proofs.YtlgmofjjjhbgkaaGreat.Sx.Z
open Go.RowKit
noncomputable def terrorsS : FSpec := fun ds _ => match ds with
  | [.f v, .f w, .i kd] => some { val := .one (.sc (.bool (.sym (true)))), vc := [(∀ j, j < 2 → -2147483648 ≤ v j ∧ v j ≤ 2147483647), (∀ j, j < 2 → -2147483648 ≤ w j ∧ w j ≤ 2147483647)] }
  | _ => none
noncomputable def terrorsC : Con := con [.agg [.ints .i32 2], .agg [.ints .i32 2], iA] terrorsS
theorem terrors_ok : ConOK Tryz.prog 3 terrorsC := by
  refine fn_ob tt_ok mixed Tryz.func3 rfl (fun _ _ => by kernel_rfl) (A := fun ds => ⟨fun _ => Cons.of [(7, tstartC), (8, nrow14C), (9, tstepC), (11, temptyC), (10, revC), (12, nhasC), (13, tstepsC)], fun k => match k, ds with | 6, [.f v, .f w, .i kd] => some { ι := Nat, pre := fun _ i => i ≤ 2, μ := fun i => 3 - i, st := fun s i => famR s [(12, .one (.sc (.int .i64 (.sym ((i : Nat)))))), (11, .one (.sc (.rows 31 (edRs (4 + modU kd 5) (nbW w)))))] [3, 6, 8, 9] [(idOf s 11, .gone)] [3, 8] } | _, _ => none, fun k => match k, ds with | 3, [.f v, .f w, .i kd] => some { ι := Bool, pre := fun _ _ => True, μ := fun _ => 0, st := fun s _ => famR s [(9, .one (.sc (.int .i64 (.sym (4 + modU kd 5)))))] [3, 6, 7, 8] [(idOf s 8, .own 25 ([.c (.int .i64 (.sym 1)), .c (.int .i64 (.sym (nbW w))), .c (.int .i64 (.sym 0)), .c .nils]))] [3, 7] } | 9, [.f v, .f w, .i kd] => some { ι := Nat, pre := fun s i => i < 2 ∧ slotI s 12 = i, μ := fun _ => 0, st := fun s i => famR s [(13, .one (.sc (.ptr (s.nx - 1) (.lit 0))))] [3, 6, 8, 9, 11, 12] [(s.nx - 1, .own 39 ([.c .nils, .c (.rows 35 (grD [edR (4 + modU kd 5) (nbW w) i])), .c (.rows 3 (.l [[.i 2]]))])), (s.nx + 48, .gone), (s.nx + 56, .gone)] [3, 8] } | 10, [.f v, .f w, .i kd] => some { ι := Nat, pre := fun s i => i < 2 ∧ slotI s 12 = i, μ := fun _ => 0, st := fun s _ => famR s [(14, .one (.sc (.ptr (s.nx - 2) (.lit 0))))] [3, 6, 8, 9, 11, 12, 13] [(s.nx - 2, .own 49 ([.c (.bool (.sym ((false, fun _ => 0) : Zs).1)), .c (.rows 53 (itD (2) (2) ((false, fun _ => 0)))), .c (.int .i64 (.sym (2))), .c (.bool (.sym ((false, fun _ => 0) : Zs).1)), .ints .i64 (.lit 49) ((false, fun _ => 0) : Zs).2, .c (.rows 53 (.l [])), .c (.rows 93 (.l []))]))] [3, 8, 13] } | 11, [.f v, .f w, .i kd] => some { ι := Nat, pre := fun s i => i < 2 ∧ slotI s 12 = i, μ := fun _ => 0, st := fun s _ => famR s [(15, .one (.sc (.rows 3 (vvD v))))] [3, 6, 8, 9, 11, 12, 13, 14] [(s.nx + 48, .gone)] [3, 8, 13, 14] } | 12, [.f v, .f w, .i kd] => some { ι := Nat, pre := fun s i => i < 2 ∧ slotI s 12 = i, μ := fun _ => 0, st := fun s _ => famR s [] [3, 6, 8, 9, 11, 12, 13, 14, 15] [(idOf s 14, .own 49 ([.c (.bool (.sym (rwV v : Zs).1)), .c (.rows 53 (itD (2) (2) (rwV v))), .c (.int .i64 (.sym (2))), .c (.bool (.sym (rwV v : Zs).1)), .ints .i64 (.lit 49) (rwV v : Zs).2, .c (.rows 53 (.l [])), .c (.rows 93 (.l []))]))] [3, 8, 13] } | _, _ => none⟩) (fun _ _ => (cons_cons tstart_ok (cons_cons nrow14_ok (cons_cons tstep_ok (cons_cons tempty_ok (cons_cons rev_ok (cons_cons nhas_ok (cons_cons tsteps_ok cons_nil)))))))) (by kernel_rfl) ?_
  intro ds fr
  unfold terrorsS
  split
  · rename_i v w kd
    refine kmp (q := (∀ (j : Nat), j < (2 : Nat) → (-2147483648 : Int) ≤ v j ∧ v j ≤ (2147483647 : Int)) →
 (∀ (j : Nat), j < (2 : Nat) → (-2147483648 : Int) ≤ w j ∧ w j ≤ (2147483647 : Int)) →
 (∃ (i : Bool),
 True ∧
 IntKind.i64.wrap ((4 : Int) + IntKind.i64.wrap ((IntKind.u64.wrap kd).tmod (5 : Int))) = (4 : Int) + modU kd (5 : Int) ∧
 false = false ∧
 (1 : Int) = (1 : Int) ∧
 IntKind.i64.wrap ((IntKind.u32.wrap (w ((0 : Nat) + (0 : Nat) * (1 : Nat)))).tmod (2147483648 : Int)) = nbW w ∧
 (0 : Int) = (0 : Int) ∧ (∀ (o : Nat), o < (2 : Nat) → v o = v o) ∧ (2 : Int) = (2 : Int) ∧ (0 : Int) = (0 : Int) ∧ (0 : Int) = (0 : Int)) ∧
 ∀ (i : Bool),
 True →
 (0 : Nat) + (2 : Nat) ≤ (D.l [[D.i (2 : Int), D.i (0 : Int), D.i (0 : Int), D.l []], [D.i (1 : Int), D.i (nbW w), D.i (0 : Int), D.l []]]).len ∧
 (∃ (i : Nat),
 i.le (2 : Nat) ∧
 (0 : Nat) + (2 : Nat) ≤
 (D.l
 [[D.i (0 : Int), D.i (1 : Int), D.i (1 : Int), D.i (1 : Int), D.i (0 : Int), D.i (0 : Int), D.i ((4 : Int) + modU kd (5 : Int)),
 D.i (0 : Int), D.i (0 : Int),
 (D.l [[D.i (2 : Int), D.i (0 : Int), D.i (0 : Int), D.l []], [D.i (1 : Int), D.i (nbW w), D.i (0 : Int), D.l []]]).sub ((0 : Nat))
 ((0 : Nat) + (2 : Nat)),
 D.i (0 : Int), D.i (0 : Int), D.i (0 : Int), D.i (0 : Int), D.l [], D.i (0 : Int), D.i (0 : Int), D.i (0 : Int), D.l []],
 [D.i (0 : Int), D.i (1 : Int), D.i (5 : Int), D.i (0 : Int), D.i (0 : Int), D.i (0 : Int), D.i (0 : Int), D.i (0 : Int),
 D.i (0 : Int), D.l [], D.i (3 : Int), D.i (2 : Int), D.i (0 : Int), D.i (0 : Int), D.l [], D.i (2 : Int), D.i (0 : Int),
 D.i (1 : Int), D.l []]]).len ∧
 (0 : Nat) + (2 : Nat) ≤
 (D.l
 [[D.i (0 : Int), D.i (1 : Int), D.i (1 : Int), D.i (1 : Int), D.i (0 : Int), D.i (0 : Int), D.i ((4 : Int) + modU kd (5 : Int)),
 D.i (0 : Int), D.i (0 : Int),
 (D.l [[D.i (2 : Int), D.i (0 : Int), D.i (0 : Int), D.l []], [D.i (1 : Int), D.i (nbW w), D.i (0 : Int), D.l []]]).sub
 ((0 : Nat)) ((0 : Nat) + (2 : Nat)),
 D.i (0 : Int), D.i (0 : Int), D.i (0 : Int), D.i (0 : Int), D.l [], D.i (0 : Int), D.i (0 : Int), D.i (0 : Int), D.l []],
 [D.i (0 : Int), D.i (1 : Int), D.i (5 : Int), D.i (0 : Int), D.i (0 : Int), D.i (0 : Int), D.i (0 : Int), D.i (0 : Int),
 D.i (0 : Int), D.l [], D.i (3 : Int), D.i (2 : Int), D.i (0 : Int), D.i (0 : Int), D.l [], D.i (2 : Int), D.i (0 : Int),
 D.i (1 : Int), D.l []]]).len ∧
 (0 : Int) = (↑i : Int) ∧
 List.drop ((0 : Nat))
 (List.take ((0 : Nat) + (2 : Nat))
 [[D.i (0 : Int), D.i (1 : Int), D.i (1 : Int), D.i (1 : Int), D.i (0 : Int), D.i (0 : Int), D.i ((4 : Int) + modU kd (5 : Int)),
 D.i (0 : Int), D.i (0 : Int),
 (D.l [[D.i (2 : Int), D.i (0 : Int), D.i (0 : Int), D.l []], [D.i (1 : Int), D.i (nbW w), D.i (0 : Int), D.l []]]).sub
 ((0 : Nat)) ((0 : Nat) + (2 : Nat)),
 D.i (0 : Int), D.i (0 : Int), D.i (0 : Int), D.i (0 : Int), D.l [], D.i (0 : Int), D.i (0 : Int), D.i (0 : Int), D.l []],
 [D.i (0 : Int), D.i (1 : Int), D.i (5 : Int), D.i (0 : Int), D.i (0 : Int), D.i (0 : Int), D.i (0 : Int), D.i (0 : Int),
 D.i (0 : Int), D.l [], D.i (3 : Int), D.i (2 : Int), D.i (0 : Int), D.i (0 : Int), D.l [], D.i (2 : Int), D.i (0 : Int),
 D.i (1 : Int), D.l []]]) =
 [edR ((4 : Int) + modU kd (5 : Int)) (nbW w) (0 : Nat), edR ((4 : Int) + modU kd (5 : Int)) (nbW w) (1 : Nat)] ∧
 false = false ∧
 (4 : Int) + modU kd (5 : Int) = (4 : Int) + modU kd (5 : Int) ∧
 (∀ (o : Nat), o < (2 : Nat) → v o = v o) ∧ (1 : Int) = (1 : Int) ∧ nbW w = nbW w ∧ (0 : Int) = (0 : Int)) ∧
 ∀ (i : Nat),
 i.le (2 : Nat) →
 (decide ((↑i : Int) < (2 : Int)) = true →
 (((0 : Int) ≤ IntKind.i64.wrap ((↑i : Int) + (1 : Int)) ∧
 IntKind.i64.wrap ((↑i : Int) + (1 : Int)) ≤ (↑(edRs ((4 : Int) + modU kd (5 : Int)) (nbW w)).len : Int)) ∧
 ((0 : Int) ≤ (↑i : Int) ∧ (↑i : Int) ≤ (↑(IntKind.i64.wrap ((↑i : Int) + (1 : Int))).toNat : Int)) ∧
 ∃ (i_1 : Nat),
 (i_1 < (2 : Nat) ∧ (↑i : Int) = (↑i_1 : Int)) ∧
 (0 : Nat) + (1 : Nat) ≤
 (D.l
 [[D.i (2 : Int),
 (edRs ((4 : Int) + modU kd (5 : Int)) (nbW w)).sub (↑i : Int).toNat
 (IntKind.i64.wrap ((↑i : Int) + (1 : Int))).toNat,
 D.l []]]).len ∧
 (0 : Nat) + (1 : Nat) ≤ (D.l [[D.i (2 : Int)]]).len ∧
 (0 : Nat) + (1 : Nat) ≤ (D.l [[D.i (2 : Int)]]).len ∧
 (0 : Nat) + (1 : Nat) ≤
 (D.l
 [[D.i (2 : Int),
 (edRs ((4 : Int) + modU kd (5 : Int)) (nbW w)).sub (↑i : Int).toNat
 (IntKind.i64.wrap ((↑i : Int) + (1 : Int))).toNat,
 D.l []]]).len ∧
 (0 : Nat) + (1 : Nat) ≤
 (D.l
 [[D.i (2 : Int),
 (edRs ((4 : Int) + modU kd (5 : Int)) (nbW w)).sub (↑i : Int).toNat
 (IntKind.i64.wrap ((↑i : Int) + (1 : Int))).toNat,
 D.l []]]).len ∧
 (0 : Nat) + (1 : Nat) ≤ (D.l [[D.i (2 : Int)]]).len ∧
 false = false ∧
 (4 : Int) + modU kd (5 : Int) = (4 : Int) + modU kd (5 : Int) ∧
 [edR ((4 : Int) + modU kd (5 : Int)) (nbW w) (0 : Nat), edR ((4 : Int) + modU kd (5 : Int)) (nbW w) (1 : Nat)] =
 [edR ((4 : Int) + modU kd (5 : Int)) (nbW w) (0 : Nat),
 edR ((4 : Int) + modU kd (5 : Int)) (nbW w) (1 : Nat)] ∧
 (↑i : Int) = (↑i : Int) ∧
 List.drop ((0 : Nat))
 (List.take ((0 : Nat) + (1 : Nat))
 [[D.i (2 : Int),
 (edRs ((4 : Int) + modU kd (5 : Int)) (nbW w)).sub (↑i : Int).toNat
 (IntKind.i64.wrap ((↑i : Int) + (1 : Int))).toNat,
 D.l []]]) =
 [[D.i (2 : Int), D.l [edR ((4 : Int) + modU kd (5 : Int)) (nbW w) i_1], D.l []]] ∧
 List.drop ((0 : Nat)) (List.take ((0 : Nat) + (1 : Nat)) [[D.i (2 : Int)]]) = [[D.i (2 : Int)]] ∧
 (∀ (o : Nat), o < (2 : Nat) → v o = v o) ∧
 (1 : Int) = (1 : Int) ∧ nbW w = nbW w ∧ (0 : Int) = (0 : Int)) ∧
 ∀ (i_1 : Nat),
 i_1 < (2 : Nat) ∧ (↑i : Int) = (↑i_1 : Int) →
 ((D.l []).len ≤ (1000 : Nat) ∧
 ∃ (i_2 : Nat),
 (i_2 < (2 : Nat) ∧ (↑i : Int) = (↑i_2 : Int)) ∧
 false = false ∧
 (4 : Int) + modU kd (5 : Int) = (4 : Int) + modU kd (5 : Int) ∧
 [edR ((4 : Int) + modU kd (5 : Int)) (nbW w) (0 : Nat), edR ((4 : Int) + modU kd (5 : Int)) (nbW w) (1 : Nat)] =
 [edR ((4 : Int) + modU kd (5 : Int)) (nbW w) (0 : Nat), edR ((4 : Int) + modU kd (5 : Int)) (nbW w) (1 : Nat)] ∧
 (↑i : Int) = (↑i : Int) ∧
 false = false ∧
 List.map
 (fun (j : Nat) =>
 [D.i
 (itvLo (topN (varP (D.l [[D.i (2 : Int)]]) (0 : Int))) false (fun (x : Nat) => (0 : Int)) (↑j : Int)),
 D.i
 (itvHi (topN (varP (D.l [[D.i (2 : Int)]]) (0 : Int))) false (fun (x : Nat) => (0 : Int))
 (↑j : Int))])
 (List.range (topN (varP (D.l [[D.i (2 : Int)]]) (0 : Int))).toNat) =
 List.map
 (fun (j : Nat) =>
 [D.i (itvLo (2 : Int) false (fun (x : Nat) => (0 : Int)) (↑j : Int)),
 D.i (itvHi (2 : Int) false (fun (x : Nat) => (0 : Int)) (↑j : Int))])
 (List.range (2 : Nat)) ∧
 topN (varP (D.l [[D.i (2 : Int)]]) (0 : Int)) = (2 : Int) ∧
 false = false ∧
 (∀ (o : Nat), o < (49 : Nat) → (0 : Int) = (0 : Int)) ∧
 List.replicate (D.l []).len [D.i (0 : Int), D.i (0 : Int)] = [] ∧
 List.replicate (D.l []).len [D.i (1 : Int)] = [] ∧
 (∀ (o : Nat), o < (2 : Nat) → v o = v o) ∧
 (1 : Int) = (1 : Int) ∧
 nbW w = nbW w ∧
 (0 : Int) = (0 : Int) ∧
 [[D.i (2 : Int), D.l [edR ((4 : Int) + modU kd (5 : Int)) (nbW w) i_1], D.l []]] =
 [[D.i (2 : Int), D.l [edR ((4 : Int) + modU kd (5 : Int)) (nbW w) i_1], D.l []]] ∧
 [[D.i (2 : Int)]] = [[D.i (2 : Int)]]) ∧
 ∀ (i_2 : Nat),
 i_2 < (2 : Nat) ∧ (↑i : Int) = (↑i_2 : Int) →
 (∃ (i_3 : Nat),
 (i_3 < (2 : Nat) ∧ (↑i : Int) = (↑i_3 : Int)) ∧
 (0 : Nat) + (2 : Nat) ≤
 (D.l
 [[D.i (IntKind.i64.wrap (v ((0 : Nat) + (0 : Nat) * (1 : Nat))))],
 [D.i (IntKind.i64.wrap (v ((0 : Nat) + (1 : Nat) * (1 : Nat))))]]).len ∧
 (0 : Nat) + (2 : Nat) ≤
 (D.l
 [[D.i (IntKind.i64.wrap (v ((0 : Nat) + (0 : Nat) * (1 : Nat))))],
 [D.i (IntKind.i64.wrap (v ((0 : Nat) + (1 : Nat) * (1 : Nat))))]]).len ∧
 List.drop ((0 : Nat))
 (List.take ((0 : Nat) + (2 : Nat))
 [[D.i (IntKind.i64.wrap (v ((0 : Nat) + (0 : Nat) * (1 : Nat))))],
 [D.i (IntKind.i64.wrap (v ((0 : Nat) + (1 : Nat) * (1 : Nat))))]]) =
 [[D.i (v (0 : Nat))], [D.i (v (1 : Nat))]] ∧
 false = false ∧
 (4 : Int) + modU kd (5 : Int) = (4 : Int) + modU kd (5 : Int) ∧
 [edR ((4 : Int) + modU kd (5 : Int)) (nbW w) (0 : Nat),
 edR ((4 : Int) + modU kd (5 : Int)) (nbW w) (1 : Nat)] =
 [edR ((4 : Int) + modU kd (5 : Int)) (nbW w) (0 : Nat),
 edR ((4 : Int) + modU kd (5 : Int)) (nbW w) (1 : Nat)] ∧
 (↑i : Int) = (↑i : Int) ∧
 (∀ (o : Nat), o < (2 : Nat) → v o = v o) ∧
 (1 : Int) = (1 : Int) ∧
 nbW w = nbW w ∧
 (0 : Int) = (0 : Int) ∧
 [[D.i (2 : Int), D.l [edR ((4 : Int) + modU kd (5 : Int)) (nbW w) i_1], D.l []]] =
 [[D.i (2 : Int), D.l [edR ((4 : Int) + modU kd (5 : Int)) (nbW w) i_1], D.l []]] ∧
 [[D.i (2 : Int)]] = [[D.i (2 : Int)]] ∧
 false = false ∧
 List.map
 (fun (j : Nat) =>
 [D.i (itvLo (2 : Int) false (fun (x : Nat) => (0 : Int)) (↑j : Int)),
 D.i (itvHi (2 : Int) false (fun (x : Nat) => (0 : Int)) (↑j : Int))])
 (List.range (2 : Nat)) =
 List.map
 (fun (j : Nat) =>
 [D.i (itvLo (2 : Int) false (fun (x : Nat) => (0 : Int)) (↑j : Int)),
 D.i (itvHi (2 : Int) false (fun (x : Nat) => (0 : Int)) (↑j : Int))])
 (List.range (2 : Nat)) ∧
 (2 : Int) = (2 : Int) ∧
 false = false ∧
 (∀ (o : Nat), o < (49 : Nat) → (0 : Int) = (0 : Int)) ∧ ([] : List (List D)) = [] ∧ ([] : List (List D)) = []) ∧
 ∀ (i_3 : Nat),
 i_3 < (2 : Nat) ∧ (↑i : Int) = (↑i_3 : Int) →
 ((vvD v).len ≤ (6 : Nat) ∧
 ∃ (i_4 : Nat),
 (i_4 < (2 : Nat) ∧ (↑i : Int) = (↑i_4 : Int)) ∧
 false = false ∧
 (4 : Int) + modU kd (5 : Int) = (4 : Int) + modU kd (5 : Int) ∧
 [edR ((4 : Int) + modU kd (5 : Int)) (nbW w) (0 : Nat),
 edR ((4 : Int) + modU kd (5 : Int)) (nbW w) (1 : Nat)] =
 [edR ((4 : Int) + modU kd (5 : Int)) (nbW w) (0 : Nat),
 edR ((4 : Int) + modU kd (5 : Int)) (nbW w) (1 : Nat)] ∧
 (↑i : Int) = (↑i : Int) ∧
 [[D.i (v (0 : Nat))], [D.i (v (1 : Nat))]] = [[D.i (v (0 : Nat))], [D.i (v (1 : Nat))]] ∧
 (rowZ (↑(vvD v).len : Int) (fun (j : Nat) => vD (vvD v) (↑j : Int)) (vvD v).len).fst = (rwV v).fst ∧
 List.map
 (fun (j : Nat) =>
 [D.i
 (itvLo (↑(vvD v).len : Int)
 (rowZ (↑(vvD v).len : Int) (fun (j : Nat) => vD (vvD v) (↑j : Int)) (vvD v).len).fst
 (rowZ (↑(vvD v).len : Int) (fun (j : Nat) => vD (vvD v) (↑j : Int)) (vvD v).len).snd
 (↑j : Int)),
 D.i
 (itvHi (↑(vvD v).len : Int)
 (rowZ (↑(vvD v).len : Int) (fun (j : Nat) => vD (vvD v) (↑j : Int)) (vvD v).len).fst
 (rowZ (↑(vvD v).len : Int) (fun (j : Nat) => vD (vvD v) (↑j : Int)) (vvD v).len).snd
 (↑j : Int))])
 (List.range (vvD v).len) =
 List.map
 (fun (j : Nat) =>
 [D.i (itvLo (2 : Int) (rwV v).fst (rwV v).snd (↑j : Int)),
 D.i (itvHi (2 : Int) (rwV v).fst (rwV v).snd (↑j : Int))])
 (List.range (2 : Nat)) ∧
 (↑(vvD v).len : Int) = (2 : Int) ∧
 (rowZ (↑(vvD v).len : Int) (fun (j : Nat) => vD (vvD v) (↑j : Int)) (vvD v).len).fst =
 (rwV v).fst ∧
 (∀ (o : Nat),
 o < (49 : Nat) →
 (rowZ (↑(vvD v).len : Int) (fun (j : Nat) => vD (vvD v) (↑j : Int)) (vvD v).len).snd o =
 (rwV v).snd o) ∧
 ([] : List (List D)) = [] ∧
 ([] : List (List D)) = [] ∧
 (∀ (o : Nat), o < (2 : Nat) → v o = v o) ∧
 (1 : Int) = (1 : Int) ∧
 nbW w = nbW w ∧
 (0 : Int) = (0 : Int) ∧
 [[D.i (2 : Int), D.l [edR ((4 : Int) + modU kd (5 : Int)) (nbW w) i_1],
 D.l []]] =
 [[D.i (2 : Int), D.l [edR ((4 : Int) + modU kd (5 : Int)) (nbW w) i_1],
 D.l []]] ∧
 [[D.i (2 : Int)]] = [[D.i (2 : Int)]]) ∧
 ∀ (i_4 : Nat),
 i_4 < (2 : Nat) ∧ (↑i : Int) = (↑i_4 : Int) →
 NumOK (2 : Int) (rwV v).fst (itD (2 : Nat) (2 : Int) (rwV v)) (rwV v).fst (rwV v).snd ∧
 (rwV v).fst = false ∧
 (0 : Int) < (2 : Int) ∧
 topN (varP (D.l [[D.i (2 : Int)]]) (0 : Int)) = (2 : Int) ∧
 edgeB (D.l []) (grD [edR ((4 : Int) + modU kd (5 : Int)) (nbW w) i_1]) (0 : Int) (0 : Int) = true ∧
 (D.l []).len = (D.l []).len ∧
 (D.l []).len = (D.l []).len ∧
 (D.l []).len ≤ (1000 : Nat) ∧
 ((edC (grD [edR ((4 : Int) + modU kd (5 : Int)) (nbW w) i_1]) (0 : Int) (0 : Int) (2 : Nat)).toI =
 (0 : Int) ∨
 (edC (grD [edR ((4 : Int) + modU kd (5 : Int)) (nbW w) i_1]) (0 : Int) (0 : Int)
 (2 : Nat)).toI =
 (1 : Int) ∨
 (edC (grD [edR ((4 : Int) + modU kd (5 : Int)) (nbW w) i_1]) (0 : Int) (0 : Int)
 (2 : Nat)).toI =
 (5 : Int) ∨
 (edC (grD [edR ((4 : Int) + modU kd (5 : Int)) (nbW w) i_1]) (0 : Int) (0 : Int)
 (2 : Nat)).toI =
 (6 : Int)) ∧
 (stpK (grD [edR ((4 : Int) + modU kd (5 : Int)) (nbW w) i_1]) (0 : Int) (0 : Int) (2 : Int)
 ((rwV v).fst, (rwV v).snd)).len ≤
 (1 : Nat) ∧
 (0 : Nat) + (2 : Nat) ≤
 (D.l
 [[D.i (2 : Int), D.i (0 : Int), D.i (0 : Int), D.l []],
 [D.i (1 : Int), D.i (nbW w), D.i (0 : Int), D.l []]]).len ∧
 Tm (↑(vvD v).len : Int)
 (ex ((4 : Int) + modU kd (5 : Int)) (0 : Int) (0 : Int)
 ((D.l
 [[D.i (2 : Int), D.i (0 : Int), D.i (0 : Int), D.l []],
 [D.i (1 : Int), D.i (nbW w), D.i (0 : Int), D.l []]]).sub
 (0 : Nat) ((0 : Nat) + (2 : Nat)))) ∧
 InV (↑(vvD v).len : Int) (vD (vvD v)) ∧
 (((↑i : Int) == (1 : Int)) = true →
 (1 : Nat) < (vvD v).len ∧
 (0 : Nat) < (vvD v).len ∧
 (1 : Nat) < (vvD v).len ∧
 (decide (v (0 : Nat) ≥ v (1 : Nat)) = true →
 ((!(nonZ
 (stpZ
 (grD [edR ((4 : Int) + modU kd (5 : Int)) (nbW w) i_1])
 (0 : Int) (0 : Int) (2 : Int)
 ((rwV v).fst, (rwV v).snd))).fst ||
 (↑(stpK (grD [edR ((4 : Int) + modU kd (5 : Int)) (nbW w) i_1])
 (0 : Int) (0 : Int) (2 : Int)
 ((rwV v).fst, (rwV v).snd)).len :
 Int) !=
 (1 : Int)) =
 false ∧
 True →
 (0 : Nat) <
 (stpK (grD [edR ((4 : Int) + modU kd (5 : Int)) (nbW w) i_1])
 (0 : Int) (0 : Int) (2 : Int) ((rwV v).fst, (rwV v).snd)).len) ∧
 ((!(nonZ
 (stpZ
 (grD
 [edR ((4 : Int) + modU kd (5 : Int)) (nbW w) i_1])
 (0 : Int) (0 : Int) (2 : Int)
 ((rwV v).fst, (rwV v).snd))).fst ||
 (↑(stpK
 (grD
 [edR ((4 : Int) + modU kd (5 : Int)) (nbW w) i_1])
 (0 : Int) (0 : Int) (2 : Int)
 ((rwV v).fst, (rwV v).snd)).len :
 Int) !=
 (1 : Int) ||
 ((stpK (grD [edR ((4 : Int) + modU kd (5 : Int)) (nbW w) i_1])
 (0 : Int) (0 : Int) (2 : Int)
 ((rwV v).fst, (rwV v).snd)).el
 ((0 : Nat)) (0 : Nat)).toI !=
 (1 : Int)) =
 true →
 false = true) ∧
 ((!(nonZ
 (stpZ
 (grD
 [edR ((4 : Int) + modU kd (5 : Int)) (nbW w) i_1])
 (0 : Int) (0 : Int) (2 : Int)
 ((rwV v).fst, (rwV v).snd))).fst ||
 (↑(stpK
 (grD
 [edR ((4 : Int) + modU kd (5 : Int)) (nbW w) i_1])
 (0 : Int) (0 : Int) (2 : Int)
 ((rwV v).fst, (rwV v).snd)).len :
 Int) !=
 (1 : Int) ||
 ((stpK (grD [edR ((4 : Int) + modU kd (5 : Int)) (nbW w) i_1])
 (0 : Int) (0 : Int) (2 : Int)
 ((rwV v).fst, (rwV v).snd)).el
 ((0 : Nat)) (0 : Nat)).toI !=
 (1 : Int)) =
 false →
 ∃ (j : Nat),
 j.le (2 : Nat) ∧
 (3 : Nat) - j < (3 : Nat) - i ∧
 IntKind.i64.wrap ((↑i : Int) + (1 : Int)) = (↑j : Int) ∧
 [edR ((4 : Int) + modU kd (5 : Int)) (nbW w) (0 : Nat),
 edR ((4 : Int) + modU kd (5 : Int)) (nbW w)
 (1 : Nat)] =
 [edR ((4 : Int) + modU kd (5 : Int)) (nbW w) (0 : Nat),
 edR ((4 : Int) + modU kd (5 : Int)) (nbW w)
 (1 : Nat)] ∧
 false = false ∧
 (4 : Int) + modU kd (5 : Int) =
 (4 : Int) + modU kd (5 : Int) ∧
 (∀ (o : Nat), o < (2 : Nat) → v o = v o) ∧
 (1 : Int) = (1 : Int) ∧
 nbW w = nbW w ∧ (0 : Int) = (0 : Int))) ∧
 (decide (v (0 : Nat) ≥ v (1 : Nat)) = false →
 (((↑(stpK (grD [edR ((4 : Int) + modU kd (5 : Int)) (nbW w) i_1])
 (0 : Int) (0 : Int) (2 : Int)
 ((rwV v).fst, (rwV v).snd)).len :
 Int) !=
 (0 : Int)) =
 false ∧
 True →
 (0 : Nat) < (vvD v).len) ∧
 ((↑(stpK (grD [edR ((4 : Int) + modU kd (5 : Int)) (nbW w) i_1])
 (0 : Int) (0 : Int) (2 : Int)
 ((rwV v).fst, (rwV v).snd)).len :
 Int) !=
 (0 : Int)) =
 false ∧
 (((↑(stpK (grD [edR ((4 : Int) + modU kd (5 : Int)) (nbW w) i_1])
 (0 : Int) (0 : Int) (2 : Int)
 ((rwV v).fst, (rwV v).snd)).len :
 Int) !=
 (0 : Int)) =
 false ∧
 True →
 (0 : Nat) + (2 : Nat) ≤
 (D.l [[D.i (v (0 : Nat))], [D.i (v (1 : Nat))]]).len) ∧
 (((↑(stpK (grD [edR ((4 : Int) + modU kd (5 : Int)) (nbW w) i_1])
 (0 : Int) (0 : Int) (2 : Int)
 ((rwV v).fst, (rwV v).snd)).len :
 Int) !=
 (0 : Int)) =
 false ∧
 True →
 (itD (Int.toNat (2 : Int)) (2 : Int)
 (nonZ
 (stpZ
 (grD
 [edR ((4 : Int) + modU kd (5 : Int)) (nbW w) i_1])
 (0 : Int) (0 : Int) (2 : Int)
 ((rwV v).fst, (rwV v).snd)))).len ≤
 (1000 : Nat)) ∧
 (((↑(stpK (grD [edR ((4 : Int) + modU kd (5 : Int)) (nbW w) i_1])
 (0 : Int) (0 : Int) (2 : Int)
 ((rwV v).fst, (rwV v).snd)).len :
 Int) !=
 (0 : Int) ||
 !nhasP
 (nonZ
 (stpZ
 (grD
 [edR ((4 : Int) + modU kd (5 : Int)) (nbW w)
 i_1])
 (0 : Int) (0 : Int) (2 : Int)
 ((rwV v).fst, (rwV v).snd))).fst
 (itD (Int.toNat (2 : Int)) (2 : Int)
 (nonZ
 (stpZ
 (grD
 [edR ((4 : Int) + modU kd (5 : Int)) (nbW w)
 i_1])
 (0 : Int) (0 : Int) (2 : Int)
 ((rwV v).fst, (rwV v).snd))))
 (2 : Int)
 (nonZ
 (stpZ
 (grD
 [edR ((4 : Int) + modU kd (5 : Int)) (nbW w)
 i_1])
 (0 : Int) (0 : Int) (2 : Int)
 ((rwV v).fst, (rwV v).snd))).fst
 (nonZ
 (stpZ
 (grD
 [edR ((4 : Int) + modU kd (5 : Int)) (nbW w)
 i_1])
 (0 : Int) (0 : Int) (2 : Int)
 ((rwV v).fst, (rwV v).snd))).snd
 ((D.l [[D.i (v (0 : Nat))], [D.i (v (1 : Nat))]]).sub
 (0 : Nat) ((0 : Nat) + (2 : Nat)))) =
 true →
 false = true) ∧
 (((↑(stpK
 (grD
 [edR ((4 : Int) + modU kd (5 : Int)) (nbW w)
 i_1])
 (0 : Int) (0 : Int) (2 : Int)
 ((rwV v).fst, (rwV v).snd)).len :
 Int) !=
 (0 : Int) ||
 !nhasP
 (nonZ
 (stpZ
 (grD
 [edR ((4 : Int) + modU kd (5 : Int)) (nbW w)
 i_1])
 (0 : Int) (0 : Int) (2 : Int)
 ((rwV v).fst, (rwV v).snd))).fst
 (itD (Int.toNat (2 : Int)) (2 : Int)
 (nonZ
 (stpZ
 (grD
 [edR ((4 : Int) + modU kd (5 : Int)) (nbW w)
 i_1])
 (0 : Int) (0 : Int) (2 : Int)
 ((rwV v).fst, (rwV v).snd))))
 (2 : Int)
 (nonZ
 (stpZ
 (grD
 [edR ((4 : Int) + modU kd (5 : Int)) (nbW w)
 i_1])
 (0 : Int) (0 : Int) (2 : Int)
 ((rwV v).fst, (rwV v).snd))).fst
 (nonZ
 (stpZ
 (grD
 [edR ((4 : Int) + modU kd (5 : Int)) (nbW w)
 i_1])
 (0 : Int) (0 : Int) (2 : Int)
 ((rwV v).fst, (rwV v).snd))).snd
 ((D.l [[D.i (v (0 : Nat))], [D.i (v (1 : Nat))]]).sub
 (0 : Nat) ((0 : Nat) + (2 : Nat)))) =
 false →
 ∃ (j : Nat),
 j.le (2 : Nat) ∧
 (3 : Nat) - j < (3 : Nat) - i ∧
 IntKind.i64.wrap ((↑i : Int) + (1 : Int)) = (↑j : Int) ∧
 [edR ((4 : Int) + modU kd (5 : Int)) (nbW w)
 (0 : Nat),
 edR ((4 : Int) + modU kd (5 : Int)) (nbW w)
 (1 : Nat)] =
 [edR ((4 : Int) + modU kd (5 : Int)) (nbW w)
 (0 : Nat),
 edR ((4 : Int) + modU kd (5 : Int)) (nbW w)
 (1 : Nat)] ∧
 false = false ∧
 (4 : Int) + modU kd (5 : Int) =
 (4 : Int) + modU kd (5 : Int) ∧
 (∀ (o : Nat), o < (2 : Nat) → v o = v o) ∧
 (1 : Int) = (1 : Int) ∧
 nbW w = nbW w ∧ (0 : Int) = (0 : Int)))) ∧
 (((↑i : Int) == (1 : Int)) = false →
 (decide
 ((evT (vD (vvD v))
 (ex ((4 : Int) + modU kd (5 : Int)) (0 : Int) (0 : Int)
 ((D.l
 [[D.i (2 : Int), D.i (0 : Int), D.i (0 : Int), D.l []],
 [D.i (1 : Int), D.i (nbW w), D.i (0 : Int), D.l []]]).sub
 (0 : Nat) ((0 : Nat) + (2 : Nat))))).snd >
 (0 : Int)) =
 true →
 ((!(nonZ
 (stpZ (grD [edR ((4 : Int) + modU kd (5 : Int)) (nbW w) i_1])
 (0 : Int) (0 : Int) (2 : Int)
 ((rwV v).fst, (rwV v).snd))).fst ||
 (↑(stpK (grD [edR ((4 : Int) + modU kd (5 : Int)) (nbW w) i_1])
 (0 : Int) (0 : Int) (2 : Int)
 ((rwV v).fst, (rwV v).snd)).len :
 Int) !=
 (1 : Int)) =
 false ∧
 True →
 (0 : Nat) <
 (stpK (grD [edR ((4 : Int) + modU kd (5 : Int)) (nbW w) i_1]) (0 : Int)
 (0 : Int) (2 : Int) ((rwV v).fst, (rwV v).snd)).len) ∧
 ((!(nonZ
 (stpZ (grD [edR ((4 : Int) + modU kd (5 : Int)) (nbW w) i_1])
 (0 : Int) (0 : Int) (2 : Int)
 ((rwV v).fst, (rwV v).snd))).fst ||
 (↑(stpK (grD [edR ((4 : Int) + modU kd (5 : Int)) (nbW w) i_1])
 (0 : Int) (0 : Int) (2 : Int)
 ((rwV v).fst, (rwV v).snd)).len :
 Int) !=
 (1 : Int) ||
 ((stpK (grD [edR ((4 : Int) + modU kd (5 : Int)) (nbW w) i_1])
 (0 : Int) (0 : Int) (2 : Int) ((rwV v).fst, (rwV v).snd)).el
 ((0 : Nat)) (0 : Nat)).toI !=
 (evT (vD (vvD v))
 (ex ((4 : Int) + modU kd (5 : Int)) (0 : Int) (0 : Int)
 ((D.l
 [[D.i (2 : Int), D.i (0 : Int), D.i (0 : Int), D.l []],
 [D.i (1 : Int), D.i (nbW w), D.i (0 : Int),
 D.l []]]).sub
 (0 : Nat) ((0 : Nat) + (2 : Nat))))).snd) =
 true →
 false = true) ∧
 ((!(nonZ
 (stpZ (grD [edR ((4 : Int) + modU kd (5 : Int)) (nbW w) i_1])
 (0 : Int) (0 : Int) (2 : Int)
 ((rwV v).fst, (rwV v).snd))).fst ||
 (↑(stpK (grD [edR ((4 : Int) + modU kd (5 : Int)) (nbW w) i_1])
 (0 : Int) (0 : Int) (2 : Int)
 ((rwV v).fst, (rwV v).snd)).len :
 Int) !=
 (1 : Int) ||
 ((stpK (grD [edR ((4 : Int) + modU kd (5 : Int)) (nbW w) i_1])
 (0 : Int) (0 : Int) (2 : Int) ((rwV v).fst, (rwV v).snd)).el
 ((0 : Nat)) (0 : Nat)).toI !=
 (evT (vD (vvD v))
 (ex ((4 : Int) + modU kd (5 : Int)) (0 : Int) (0 : Int)
 ((D.l
 [[D.i (2 : Int), D.i (0 : Int), D.i (0 : Int), D.l []],
 [D.i (1 : Int), D.i (nbW w), D.i (0 : Int),
 D.l []]]).sub
 (0 : Nat) ((0 : Nat) + (2 : Nat))))).snd) =
 false →
 ∃ (j : Nat),
 j.le (2 : Nat) ∧
 (3 : Nat) - j < (3 : Nat) - i ∧
 IntKind.i64.wrap ((↑i : Int) + (1 : Int)) = (↑j : Int) ∧
 [edR ((4 : Int) + modU kd (5 : Int)) (nbW w) (0 : Nat),
 edR ((4 : Int) + modU kd (5 : Int)) (nbW w) (1 : Nat)] =
 [edR ((4 : Int) + modU kd (5 : Int)) (nbW w) (0 : Nat),
 edR ((4 : Int) + modU kd (5 : Int)) (nbW w) (1 : Nat)] ∧
 false = false ∧
 (4 : Int) + modU kd (5 : Int) =
 (4 : Int) + modU kd (5 : Int) ∧
 (∀ (o : Nat), o < (2 : Nat) → v o = v o) ∧
 (1 : Int) = (1 : Int) ∧
 nbW w = nbW w ∧ (0 : Int) = (0 : Int))) ∧
 (decide
 ((evT (vD (vvD v))
 (ex ((4 : Int) + modU kd (5 : Int)) (0 : Int) (0 : Int)
 ((D.l
 [[D.i (2 : Int), D.i (0 : Int), D.i (0 : Int), D.l []],
 [D.i (1 : Int), D.i (nbW w), D.i (0 : Int), D.l []]]).sub
 (0 : Nat) ((0 : Nat) + (2 : Nat))))).snd >
 (0 : Int)) =
 false →
 (((↑(stpK (grD [edR ((4 : Int) + modU kd (5 : Int)) (nbW w) i_1]) (0 : Int)
 (0 : Int) (2 : Int) ((rwV v).fst, (rwV v).snd)).len :
 Int) !=
 (0 : Int)) =
 false ∧
 True →
 (0 : Nat) < (vvD v).len) ∧
 ((↑(stpK (grD [edR ((4 : Int) + modU kd (5 : Int)) (nbW w) i_1]) (0 : Int)
 (0 : Int) (2 : Int) ((rwV v).fst, (rwV v).snd)).len :
 Int) !=
 (0 : Int)) =
 false ∧
 (((↑(stpK (grD [edR ((4 : Int) + modU kd (5 : Int)) (nbW w) i_1]) (0 : Int)
 (0 : Int) (2 : Int) ((rwV v).fst, (rwV v).snd)).len :
 Int) !=
 (0 : Int)) =
 false ∧
 True →
 (0 : Nat) + (2 : Nat) ≤
 (D.l
 [[D.i (v (0 : Nat))],
 [D.i
 (evT (vD (vvD v))
 (ex ((4 : Int) + modU kd (5 : Int)) (0 : Int) (0 : Int)
 ((D.l
 [[D.i (2 : Int), D.i (0 : Int), D.i (0 : Int),
 D.l []],
 [D.i (1 : Int), D.i (nbW w), D.i (0 : Int),
 D.l []]]).sub
 (0 : Nat) ((0 : Nat) + (2 : Nat))))).fst]]).len) ∧
 (((↑(stpK (grD [edR ((4 : Int) + modU kd (5 : Int)) (nbW w) i_1])
 (0 : Int) (0 : Int) (2 : Int)
 ((rwV v).fst, (rwV v).snd)).len :
 Int) !=
 (0 : Int)) =
 false ∧
 True →
 (itD (Int.toNat (2 : Int)) (2 : Int)
 (nonZ
 (stpZ (grD [edR ((4 : Int) + modU kd (5 : Int)) (nbW w) i_1])
 (0 : Int) (0 : Int) (2 : Int)
 ((rwV v).fst, (rwV v).snd)))).len ≤
 (1000 : Nat)) ∧
 (((↑(stpK (grD [edR ((4 : Int) + modU kd (5 : Int)) (nbW w) i_1])
 (0 : Int) (0 : Int) (2 : Int)
 ((rwV v).fst, (rwV v).snd)).len :
 Int) !=
 (0 : Int) ||
 !nhasP
 (nonZ
 (stpZ
 (grD
 [edR ((4 : Int) + modU kd (5 : Int)) (nbW w) i_1])
 (0 : Int) (0 : Int) (2 : Int)
 ((rwV v).fst, (rwV v).snd))).fst
 (itD (Int.toNat (2 : Int)) (2 : Int)
 (nonZ
 (stpZ
 (grD
 [edR ((4 : Int) + modU kd (5 : Int)) (nbW w) i_1])
 (0 : Int) (0 : Int) (2 : Int)
 ((rwV v).fst, (rwV v).snd))))
 (2 : Int)
 (nonZ
 (stpZ
 (grD
 [edR ((4 : Int) + modU kd (5 : Int)) (nbW w) i_1])
 (0 : Int) (0 : Int) (2 : Int)
 ((rwV v).fst, (rwV v).snd))).fst
 (nonZ
 (stpZ
 (grD
 [edR ((4 : Int) + modU kd (5 : Int)) (nbW w) i_1])
 (0 : Int) (0 : Int) (2 : Int)
 ((rwV v).fst, (rwV v).snd))).snd
 ((D.l
 [[D.i (v (0 : Nat))],
 [D.i
 (evT (vD (vvD v))
 (ex ((4 : Int) + modU kd (5 : Int))
 (0 : Int) (0 : Int)
 ((D.l
 [[D.i (2 : Int), D.i (0 : Int),
 D.i (0 : Int), D.l []],
 [D.i (1 : Int), D.i (nbW w),
 D.i (0 : Int), D.l []]]).sub
 (0 : Nat)
 ((0 : Nat) + (2 : Nat))))).fst]]).sub
 (0 : Nat) ((0 : Nat) + (2 : Nat)))) =
 true →
 false = true) ∧
 (((↑(stpK (grD [edR ((4 : Int) + modU kd (5 : Int)) (nbW w) i_1])
 (0 : Int) (0 : Int) (2 : Int)
 ((rwV v).fst, (rwV v).snd)).len :
 Int) !=
 (0 : Int) ||
 !nhasP
 (nonZ
 (stpZ
 (grD
 [edR ((4 : Int) + modU kd (5 : Int)) (nbW w) i_1])
 (0 : Int) (0 : Int) (2 : Int)
 ((rwV v).fst, (rwV v).snd))).fst
 (itD (Int.toNat (2 : Int)) (2 : Int)
 (nonZ
 (stpZ
 (grD
 [edR ((4 : Int) + modU kd (5 : Int)) (nbW w) i_1])
 (0 : Int) (0 : Int) (2 : Int)
 ((rwV v).fst, (rwV v).snd))))
 (2 : Int)
 (nonZ
 (stpZ
 (grD
 [edR ((4 : Int) + modU kd (5 : Int)) (nbW w) i_1])
 (0 : Int) (0 : Int) (2 : Int)
 ((rwV v).fst, (rwV v).snd))).fst
 (nonZ
 (stpZ
 (grD
 [edR ((4 : Int) + modU kd (5 : Int)) (nbW w) i_1])
 (0 : Int) (0 : Int) (2 : Int)
 ((rwV v).fst, (rwV v).snd))).snd
 ((D.l
 [[D.i (v (0 : Nat))],
 [D.i
 (evT (vD (vvD v))
 (ex ((4 : Int) + modU kd (5 : Int))
 (0 : Int) (0 : Int)
 ((D.l
 [[D.i (2 : Int), D.i (0 : Int),
 D.i (0 : Int), D.l []],
 [D.i (1 : Int), D.i (nbW w),
 D.i (0 : Int), D.l []]]).sub
 (0 : Nat)
 ((0 : Nat) + (2 : Nat))))).fst]]).sub
 (0 : Nat) ((0 : Nat) + (2 : Nat)))) =
 false →
 ∃ (j : Nat),
 j.le (2 : Nat) ∧
 (3 : Nat) - j < (3 : Nat) - i ∧
 IntKind.i64.wrap ((↑i : Int) + (1 : Int)) = (↑j : Int) ∧
 [edR ((4 : Int) + modU kd (5 : Int)) (nbW w) (0 : Nat),
 edR ((4 : Int) + modU kd (5 : Int)) (nbW w)
 (1 : Nat)] =
 [edR ((4 : Int) + modU kd (5 : Int)) (nbW w) (0 : Nat),
 edR ((4 : Int) + modU kd (5 : Int)) (nbW w)
 (1 : Nat)] ∧
 false = false ∧
 (4 : Int) + modU kd (5 : Int) =
 (4 : Int) + modU kd (5 : Int) ∧
 (∀ (o : Nat), o < (2 : Nat) → v o = v o) ∧
 (1 : Int) = (1 : Int) ∧
 nbW w = nbW w ∧ (0 : Int) = (0 : Int))))) ∧
 (decide ((↑i : Int) < (2 : Int)) = false → true = true)) (by kernel_rfl) ?_
    intro hv hw
    have hm : 0 ≤ modU kd 5 ∧ modU kd 5 < 5 := modU_in (by omega)
    have em : IntKind.i64.wrap ((IntKind.u64.wrap kd).tmod 5) = modU kd 5 := by
      unfold modU
      rw [show IntKind.u64.wrap 5 = 5 by decide]
    have ek : IntKind.i64.wrap (4 + IntKind.i64.wrap ((IntKind.u64.wrap kd).tmod 5)) = 4 + modU kd 5 := by rw [em]; exact wr _ (by omega)
    have hk : 4 ≤ 4 + modU kd 5 ∧ 4 + modU kd 5 ≤ 8 := by omega
    have hb : 0 ≤ nbW w ∧ nbW w ≤ 2147483647 := by
      have h1 : 0 ≤ IntKind.u32.wrap (w 0) := by rw [IntKind.wrap_u32]; omega
      have h2 := Int.tmod_nonneg 2147483648 h1
      have h3 := Int.tmod_lt_of_pos (IntKind.u32.wrap (w 0)) (by decide : (0 : Int) < 2147483648)
      unfold nbW
      rw [wr _ (by omega)]
      omega
    refine ⟨⟨true, ?_⟩, fun _ _ => ⟨Nat.le_refl _, ⟨0, ?_⟩, ?_⟩⟩
    · (repeat' apply And.intro) <;> first | rfl | trivial | exact ek | (intro _ _; rfl)
    · (repeat' apply And.intro) <;> first | rfl | trivial | exact Nat.zero_le _ | exact Nat.le_refl _ | (intro _ _; rfl)
    revert hk hb
    generalize 4 + modU kd 5 = k
    generalize nbW w = nb
    intro hk hb i hi
    refine ⟨fun hl => ?_, fun _ => rfl⟩
    have w0 : IntKind.i64.wrap (v (0 + 0 * 1)) = v 0 := wr _ (by have := hv 0 (by omega); show -9223372036854775808 ≤ v 0 ∧ v 0 ≤ _; omega)
    have w1 : IntKind.i64.wrap (v (0 + 1 * 1)) = v 1 := wr _ (by have := hv 1 (by omega); show -9223372036854775808 ≤ v 1 ∧ v 1 ≤ _; omega)
    have hl : (i : Int) < 2 := of_decide_eq_true hl
    have hl : i < 2 := by omega
    have hi2 : i = 0 ∨ i = 1 := by omega
    have cl : (edRs k nb).len = 2 := rfl
    rw [cl]
    refine ⟨⟨by rcases hi2 with rfl | rfl <;> decide, by rcases hi2 with rfl | rfl <;> decide, i, ?_⟩, ?_⟩
    · (repeat' apply And.intro) <;> first | rfl | exact hl | exact Nat.le_refl _ | (intro _ _; rfl) | (rcases hi2 with rfl | rfl <;> rfl)
    rintro j ⟨hj, ej⟩
    have ej : i = j := by omega
    subst ej
    refine ⟨⟨Nat.zero_le _, i, ?_⟩, ?_⟩
    · (repeat' apply And.intro) <;> first | rfl | exact hl | (intro _ _; rfl)
    rintro j ⟨hj, ej⟩
    have ej : i = j := by omega
    subst ej
    simp only [w0, w1]
    refine ⟨⟨i, ?_⟩, ?_⟩
    · (repeat' apply And.intro) <;> first | trivial | rfl | exact hl | exact Nat.le_refl _ | (intro _ _; rfl) | (intro _ _; trivial)
    rintro j ⟨hj, ej⟩
    have ej : i = j := by omega
    subst ej
    have c1 : (vvD v).len = 2 := rfl
    have c3 : ((2 : Nat) : Int) = 2 := rfl
    have ra : rowZ 2 (fun j => vD (vvD v) (j : Int)) 2 = rwV v := rowZ_two _
    simp only [c1, c3, ra]
    refine ⟨⟨by decide, i, ?_⟩, ?_⟩
    · (repeat' apply And.intro) <;> first | trivial | rfl | exact hl | (intro _ _; rfl) | (intro _ _; trivial)
    rintro j ⟨hj, ej⟩
    have ej : i = j := by omega
    subst ej
    obtain ⟨f1, f2⟩ := err_facts hv hk hb hl
    have sg : Sg 2 (rwV v) (vz (two (v 0) (v 1))) := row_all (n := 2) (by omega) (two_in (hv 0 (by omega)) (hv 1 (by omega)))
    have tw : topN (varP (D.l [[D.i 2]]) 0) = 2 := by kernel_rfl
    have hp : ((rwV v).fst, (rwV v).snd) = rwV v := rfl
    have kd1 : (D.l [[D.i 2, D.i 0, D.i 0, D.l []], [D.i 1, D.i nb, D.i 0, D.l []]]).sub 0 (0 + 2) = kiD nb := rfl
    have hev : evT (vD (vvD v)) (ex k 0 0 (kiD nb)) = opT k (v 0, 0) (nb, 0) := ev_kid _ _ _
    have hs : ∀ a b : D, (D.l [[a], [b]]).sub 0 (0 + 2) = .l [[a], [b]] := fun _ _ => rfl
    have ht : Int.toNat 2 = 2 := rfl
    have hE : edgeB (D.l []) (grD [edR k nb i]) 0 0 = true := by rcases hi2 with rfl | rfl <;> rfl
    have hkd : (edC (grD [edR k nb i]) 0 0 2).toI = 0 ∨ (edC (grD [edR k nb i]) 0 0 2).toI = 1 ∨ (edC (grD [edR k nb i]) 0 0 2).toI = 5 ∨ (edC (grD [edR k nb i]) 0 0 2).toI = 6 := by rcases hi2 with rfl | rfl; exact .inr (.inl rfl); exact .inr (.inr (.inl rfl))
    have hn : NumOK 2 (rwV v).1 (itD 2 2 (rwV v)) (rwV v).1 (rwV v).2 := numOK_of sg.1
    have hI : InV 2 (vD (vvD v)) := fun x h0 h1 => by
      have hx : x = 0 ∨ x = 1 := by omega
      rcases hx with rfl | rfl
      · exact hv 0 (by omega)
      · exact hv 1 (by omega)
    have hK1 : (stpK (grD [edR k nb i]) 0 0 2 (rwV v)).len ≤ 1 := by
      by_cases he : erV k nb v i > 0
      · rw [(f1 he).2]; exact Nat.le_refl _
      · rw [(f2 he).2.1]; exact Nat.zero_le _
    simp only [hp, kd1, hev, hs, itD_len, ht]
    refine ⟨hn, sg.2.1.1, by decide, tw, hE, trivial, trivial, Nat.zero_le _, hkd, hK1, Nat.le_refl _, tm_kid hk hb, hI, fun h1 => ?_, fun h1 => ?_⟩
    · have i1 : i = 1 := by
        have := of_decide_eq_true h1
        omega
      subst i1
      refine ⟨by decide, by decide, by decide, fun hd => ?_, fun hd => ?_⟩
      · have e1 : erV k nb v 1 = 1 := if_pos (of_decide_eq_true hd)
        obtain ⟨z, kk⟩ := f1 (by rw [e1]; decide)
        rw [e1] at kk
        have hN : nonZ (stpZ (grD [edR k nb 1]) 0 0 2 (rwV v)) = (true, fun _ => 0) := if_pos z
        simp only [hN, kk]
        exact ⟨fun _ => by decide, fun h => absurd h (by decide), fun _ => ⟨2, Nat.le_refl _, by decide, by decide, trivial, trivial, trivial, fun _ _ => trivial, trivial, trivial, trivial⟩⟩
      · have e1 : erV k nb v 1 = 0 := if_neg (of_decide_eq_false hd)
        obtain ⟨z, kk, hh⟩ := f2 (by rw [e1]; decide)
        have hh : nhasP (stpZ (grD [edR k nb 1]) 0 0 2 (rwV v)).1 (itD 2 2 (stpZ (grD [edR k nb 1]) 0 0 2 (rwV v))) 2 (stpZ (grD [edR k nb 1]) 0 0 2 (rwV v)).1 (stpZ (grD [edR k nb 1]) 0 0 2 (rwV v)).2 (.l [[.i (v 0)], [.i (v 1)]]) = true := hh
        have hN : nonZ (stpZ (grD [edR k nb 1]) 0 0 2 (rwV v)) = stpZ (grD [edR k nb 1]) 0 0 2 (rwV v) := if_neg (by rw [z]; decide)
        simp only [hN, kk, hh]
        exact ⟨fun _ => by decide, by decide, fun _ => Nat.le_refl _, fun _ => by decide, fun h => absurd h (by decide), fun _ => ⟨2, Nat.le_refl _, by decide, by decide, trivial, trivial, trivial, fun _ _ => trivial, trivial, trivial, trivial⟩⟩
    · have i0 : i = 0 := by
        rcases hi2 with h | h
        · exact h
        · subst h; exact absurd h1 (by decide)
      subst i0
      have e0 : erV k nb v 0 = (opT k (v 0, 0) (nb, 0)).2 := rfl
      have m0 : mV k nb v 0 = (opT k (v 0, 0) (nb, 0)).1 := rfl
      rw [e0] at f1 f2
      rw [m0] at f2
      revert f1 f2
      generalize opT k (v 0, 0) (nb, 0) = t
      obtain ⟨t1, t2⟩ := t
      intro f1 f2
      dsimp only at f1 f2 ⊢
      refine ⟨fun hd => ?_, fun hd => ?_⟩
      · obtain ⟨z, kk⟩ := f1 (of_decide_eq_true hd)
        have hN : nonZ (stpZ (grD [edR k nb 0]) 0 0 2 (rwV v)) = (true, fun _ => 0) := if_pos z
        have el : ((D.l [[D.i t2]]).el 0 0).toI = t2 := rfl
        simp only [hN, kk, el]
        exact ⟨fun _ => Nat.le_refl 1, fun h => by simp [D.len, D.rows] at h, fun _ => ⟨1, (by decide : 1 ≤ 2), by decide, by decide, trivial, trivial, trivial, fun _ _ => trivial, trivial, trivial, trivial⟩⟩
      · obtain ⟨z, kk, hh⟩ := f2 (of_decide_eq_false hd)
        have hN : nonZ (stpZ (grD [edR k nb 0]) 0 0 2 (rwV v)) = stpZ (grD [edR k nb 0]) 0 0 2 (rwV v) := if_neg (by rw [z]; decide)
        simp only [hN, kk, hh]
        exact ⟨fun _ => by decide, by decide, fun _ => Nat.le_refl _, fun _ => by decide, fun h => absurd h (by decide), fun _ => ⟨1, (by decide : 1 ≤ 2), by decide, by decide, trivial, trivial, trivial, fun _ _ => trivial, trivial, trivial, trivial⟩⟩
  · trivial
end Go.Proofs.YtlgmofjjjhbgkaaGreat.Sx.Z
