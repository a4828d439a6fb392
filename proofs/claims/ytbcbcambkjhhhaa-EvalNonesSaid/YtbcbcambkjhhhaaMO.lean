/-
  zone.Within, Join, Widen, Has, Right: what they tell.
-/
import Derived.Test.YtbcbcambkjhhhaaProg
import Derived.IntWalk
import Derived.ChangeArms
import Derived.OpenShut
import Derived.WideShapes
import Derived.ChangeShapes
import Derived.Carry
import Derived.DataReads
import Derived.KernelRfl
import Derived.Deep.LoopGhost
import Derived.Laws.Append
import Derived.Laws.AppendOwn
import Derived.Laws.MakeOwn
import Derived.Laws.StructEq
import Derived.Laws.Cells
import Derived.Laws.CopyRow
import Derived.Laws.Rows
import Derived.Below
import Derived.Orders
import Derived.ChangeKeysEq
import Derived.Test.YtbcbcambkjhhhaaMA
import Derived.Test.YtbcbcambkjhhhaaMB
import Derived.Test.YtbcbcambkjhhhaaMC
import Derived.Test.YtbcbcambkjhhhaaMD
import Derived.Test.YtbcbcambkjhhhaaME
import Derived.Test.YtbcbcambkjhhhaaMF
import Derived.Test.YtbcbcambkjhhhaaMG
import Derived.Test.YtbcbcambkjhhhaaMH
import Derived.Test.YtbcbcambkjhhhaaMI
import Derived.Test.YtbcbcambkjhhhaaMJ
import Derived.Test.YtbcbcambkjhhhaaMK
import Derived.Test.YtbcbcambkjhhhaaML
import Derived.Test.YtbcbcambkjhhhaaMM
import Derived.Test.YtbcbcambkjhhhaaMj1
import Derived.Test.YtbcbcambkjhhhaaMN
namespace Go.Proofs.Ytbcbcambkjhhhaa.Sx.Z
open Go.RowKit
/-- The state at a loop's head: some slots new, others kept, blocks kept. -/
def famS (s : St) (sl : Slots) (ks : List Nat) (hs : List Nat) : St := { tm := sl ++ keepS s.tm ks, hp := keepH s.hp (hs.map (idOf s)), nx := s.nx }
/-- Of the cells ahead of one it is so. -/
def up (p : Nat → Bool) (r k m : Nat) : Prop := ∀ o, o < 49 → ((o / 7 < k ∨ o / 7 = k ∧ o % 7 < m) ∧ o % 7 < r) → p o = true
def allB (p : Nat → Bool) (r : Nat) : Bool := (List.range 49).all fun o => !(Nat.blt (o / 7) r && Nat.blt (o % 7) r) || p o
theorem allB_iff {p : Nat → Bool} {r : Nat} : allB p r = true ↔ ∀ o, o < 49 → (o / 7 < r ∧ o % 7 < r) → p o = true := by
  unfold allB
  rw [List.all_eq_true]
  constructor
  · intro h o ho hr
    have := h o (List.mem_range.2 ho)
    rw [Bool.or_eq_true, Bool.not_eq_true'] at this
    rcases this with h1 | h1
    · exfalso
      rw [Bool.and_eq_false_iff] at h1
      rcases h1 with h1 | h1
      · rw [show Nat.blt (o / 7) r = true from by rw [Nat.blt_eq]; exact hr.1] at h1; cases h1
      · rw [show Nat.blt (o % 7) r = true from by rw [Nat.blt_eq]; exact hr.2] at h1; cases h1
    · exact h1
  · intro h o ho
    have ho := List.mem_range.1 ho
    by_cases hr : o / 7 < r ∧ o % 7 < r
    · rw [h o ho hr, Bool.or_true]
    · have : (Nat.blt (o / 7) r && Nat.blt (o % 7) r) = false := by
        rw [Bool.eq_false_iff]
        intro h1
        rw [Bool.and_eq_true, Nat.blt_eq, Nat.blt_eq] at h1
        exact hr h1
      rw [this]; rfl
theorem up_zero (p : Nat → Bool) (r : Nat) : up p r 0 0 := fun o _ h => by omega
theorem up_next {p : Nat → Bool} {r k : Nat} (h : up p r k r) : up p r (k + 1) 0 := fun o ho hh => h o ho (by omega)
theorem up_step {p : Nat → Bool} {r k m : Nat} (h : up p r k m) (hm : m < 7) (hp : p (k * 7 + m) = true) : up p r k (m + 1) := fun o ho hh => by
  by_cases e : o = k * 7 + m
  · rw [e]; exact hp
  · exact h o ho (by omega)
theorem up_end {p : Nat → Bool} {r : Nat} (h : up p r r 0) : true = allB p r := (allB_iff.2 fun o ho hh => h o ho (by omega)).symm
theorem up_no {p : Nat → Bool} {r k m : Nat} (hm : m < r) (hr : r ≤ 7) (hk : k < r) (hp : p (k * 7 + m) = false) : false = allB p r := by
  cases h : allB p r with
  | false => rfl
  | true =>
    have := allB_iff.1 h (k * 7 + m) (by omega) (by omega)
    rw [hp] at this; cases this
def leP (f g : Nat → Int) (o : Nat) : Bool := decide (f o ≤ g o)
def withinP (n : Int) (c : Bool) (f : Nat → Int) (m : Int) (e : Bool) (g : Nat → Int) : Bool := if (n != m || c || e) = true then (n == m) && c else allB (leP f g) (rowsP n).toNat
def jnTo (f g : Nat → Int) (r k m : Nat) (o : Nat) : Int := if (o / 7 < k ∨ o / 7 = k ∧ o % 7 < m) ∧ o % 7 < r then max (f o) (g o) else f o
def jnC (n : Int) (c : Bool) (m : Int) (e : Bool) : Bool := if (n != m || e) = true then c else if c = true then e else c
def jnF (n : Int) (c : Bool) (f : Nat → Int) (m : Int) (e : Bool) (g : Nat → Int) (o : Nat) : Int := if (n != m || e) = true then f o else if c = true then g o else jnTo f g (rowsP n).toNat (rowsP n).toNat 0 o
def hv (l : Nat) (g : Nat → Int) : Nat → Int := cpF 1 (Nat.min l 6) g (fun _ => 0)
def hasQ (f v : Nat → Int) (o : Nat) : Bool := decide (-2147483648 ≤ v (o / 7)) && decide (v (o / 7) ≤ 2147483647) && decide (IntKind.i64.wrap (v (o / 7) - v (o % 7)) ≤ f o)
theorem hasQ_eq {f v : Nat → Int} {k m : Nat} (hm : m < 7) : hasQ f v (k * 7 + m) = !(!(decide (-2147483648 ≤ v k) && decide (v k ≤ 2147483647)) || decide (IntKind.i64.wrap (v k - v m) > f (k * 7 + m))) := by
  unfold hasQ
  rw [(dm7 (k := k) (m := m) hm).1, (dm7 (k := k) (m := m) hm).2]
  by_cases h : IntKind.i64.wrap (v k - v m) ≤ f (k * 7 + m)
  · rw [decide_eq_true h, decide_eq_false (show ¬ IntKind.i64.wrap (v k - v m) > f (k * 7 + m) by omega)]
    simp
  · rw [decide_eq_false h, decide_eq_true (show IntKind.i64.wrap (v k - v m) > f (k * 7 + m) by omega)]
    simp
def hasP (n : Int) (c : Bool) (f : Nat → Int) (l : Nat) (g : Nat → Int) : Bool := if (c || (l : Int) != n || decide (n > 6)) = true then false else allB (hasQ f (hv l g)) (rowsP n).toNat
def bRight (n i j b : Int) : Bool := if (i == j || decide (i ≥ rowsP n) || decide (j ≥ rowsP n)) = true then b == 0 else if (j == 0 && decide (b > 2147483647) || i == 0 && decide (b > 2147483648)) = true then false else decide (b > -1099511627776) && decide (b < 1099511627776)
def bQ (n : Int) (f : Nat → Int) (o : Nat) : Bool := bRight n (o / 7 : Nat) (o % 7 : Nat) (f o)
def bsRight (n : Int) (f : Nat → Int) : Bool := allB (bQ n f) 7
theorem bs_sm {n : Int} {f : Nat → Int} (h : bsRight n f = true) : Sm f := fun o ho => by
  have := allB_iff.1 h o ho (by omega)
  unfold bQ bRight at this
  split at this
  · have := eq_of_beq this; omega
  · split at this
    · cases this
    · simp only [Bool.and_eq_true, decide_eq_true_eq] at this; omega
def tri (f : Nat → Int) (i j k : Nat) : Prop := f (i * 7 + j) ≤ f (i * 7 + k) + f (k * 7 + j)
def clUp (f : Nat → Int) (r a b c : Nat) : Prop := ∀ i j k, i < r → j < r → k < r → (i < a ∨ i = a ∧ (j < b ∨ j = b ∧ k < c)) → tri f i j k
theorem cl_zero (f : Nat → Int) (r : Nat) : clUp f r 0 0 0 := fun i j k _ _ _ h => by omega
theorem cl_step {f : Nat → Int} {r a b c : Nat} (h : clUp f r a b c) (ht : tri f a b c) : clUp f r a b (c + 1) := fun i j k hi hj hk hh => by
  by_cases e : i = a ∧ j = b ∧ k = c
  · rw [e.1, e.2.1, e.2.2]; exact ht
  · exact h i j k hi hj hk (by omega)
theorem cl_next2 {f : Nat → Int} {r a b : Nat} (h : clUp f r a b r) : clUp f r a (b + 1) 0 := fun i j k hi hj hk hh => h i j k hi hj hk (by omega)
theorem cl_next1 {f : Nat → Int} {r a : Nat} (h : clUp f r a r 0) : clUp f r (a + 1) 0 0 := fun i j k hi hj hk hh => h i j k hi hj hk (by omega)
def closedB (r : Nat) (f : Nat → Int) : Bool := decide (∀ i, i < r → ∀ j, j < r → ∀ k, k < r → f (i * 7 + j) ≤ f (i * 7 + k) + f (k * 7 + j))
theorem closedB_iff {r : Nat} {f : Nat → Int} : closedB r f = true ↔ ∀ i j k, i < r → j < r → k < r → tri f i j k := by
  unfold closedB
  rw [decide_eq_true_eq]
  exact ⟨fun h i j k hi hj hk => h i hi j hj k hk, fun h i hi j hj k hk => h i j k hi hj hk⟩
theorem cl_end {f : Nat → Int} {r : Nat} (h : clUp f r r 0 0) : true = closedB r f := (closedB_iff.2 fun i j k hi hj hk => h i j k hi hj hk (.inl hi)).symm
theorem cl_no {f : Nat → Int} {r a b c : Nat} (ha : a < r) (hb : b < r) (hc : c < r) (h : ¬ tri f a b c) : false = closedB r f := by
  cases e : closedB r f with
  | false => rfl
  | true => exact absurd (closedB_iff.1 e a b c ha hb hc) h
def rightP (n : Int) (c : Bool) (f : Nat → Int) : Bool := if (decide (n < 0) || decide (n > 6)) = true then false else if c = true then eqF 49 f (fun _ => 0) else bsRight n f && closedB (rowsP n).toNat f
def withinS : FSpec := fun ds _ => match ds with
  | [.i n, .b c, .f f, .i m, .b e, .f g] => some { val := .one (.sc (.bool (.sym (withinP n c f m e g)))), vc := [] }
  | _ => none
def withinC : Con := con [zA, zA] withinS
theorem within_ok : ConOK Try.prog 91 withinC := by
  refine fn_ob tt_ok mixed Try.func91 rfl (fun _ _ => by kernel_rfl) (A := fun ds => ⟨fun _ => Cons.of [(114, rowsC)], fun k => match k, ds with | 4, [.i n, .b c, .f f, .i m, .b e, .f g] => some { ι := Nat, pre := fun _ k => k ≤ (rowsP n).toNat ∧ up (leP f g) (rowsP n).toNat k 0, μ := fun k => 7 - k, st := fun s k => famS s [(31, .one (.sc (.int .i64 (.sym (k : Nat)))))] [2, 3, 4, 30] [2, 3] } | 7, [.i n, .b c, .f f, .i m, .b e, .f g] => some { ι := Nat, pre := fun s q => q ≤ (rowsP n).toNat ∧ up (leP f g) (rowsP n).toNat (slotN s 31) q, μ := fun q => 7 - q, st := fun s q => famS s [(36, .one (.sc (.int .i64 (.sym (q : Nat)))))] [2, 3, 4, 5, 30, 31, 35] [2, 3] } | _, _ => none, fun _ => none⟩) (fun _ _ => (cons_cons rows_ok cons_nil)) (by kernel_rfl) ?_
  intro ds fr
  unfold withinS
  split
  · rename_i n c f m e g
    refine kmp (q := ((n != m || c || e) = true → (n == m && c) = withinP n c f m e g) ∧
 ((n != m || c || e) = false →
 (∃ (i : Nat),
 (i ≤ (rowsP n).toNat ∧ up (leP f g) (rowsP n).toNat i (0 : Nat)) ∧
 (0 : Int) = (↑i : Int) ∧
 false = false ∧
 rowsP n = rowsP n ∧ n = n ∧ c = c ∧ (∀ (o : Nat), o < nat_lit 49 → f o = f o) ∧ m = m ∧ e = e ∧ ∀ (o : Nat), o < nat_lit 49 → g o = g o) ∧
 ∀ (i : Nat),
 i ≤ (rowsP n).toNat ∧ up (leP f g) (rowsP n).toNat i (0 : Nat) →
 (decide ((↑i : Int) < rowsP n) = true →
 (∃ (i_1 : Nat),
 (i_1 ≤ (rowsP n).toNat ∧ up (leP f g) (rowsP n).toNat (↑i : Int).toNat i_1) ∧
 (0 : Int) = (↑i_1 : Int) ∧
 false = false ∧
 (↑i : Int) = (↑i : Int) ∧
 rowsP n = rowsP n ∧
 (↑i : Int) = (↑i : Int) ∧
 rowsP n = rowsP n ∧
 n = n ∧ c = c ∧ (∀ (o : Nat), o < nat_lit 49 → f o = f o) ∧ m = m ∧ e = e ∧ ∀ (o : Nat), o < nat_lit 49 → g o = g o) ∧
 ∀ (i_1 : Nat),
 i_1 ≤ (rowsP n).toNat ∧ up (leP f g) (rowsP n).toNat (↑i : Int).toNat i_1 →
 (decide ((↑i_1 : Int) < rowsP n) = true →
 ((0 : Int) ≤ (↑i : Int) ∧ (↑i : Int) < (↑(7 : Nat) : Int)) ∧
 ((0 : Int) ≤ (↑i_1 : Int) ∧ (↑i_1 : Int) < (↑(7 : Nat) : Int)) ∧
 nat_lit 0 + ((↑i : Int).toNat * (7 : Nat) + (↑i_1 : Int).toNat * (1 : Nat)) < (49 : Nat) ∧
 ((0 : Int) ≤ (↑i : Int) ∧ (↑i : Int) < (↑(7 : Nat) : Int)) ∧
 ((0 : Int) ≤ (↑i_1 : Int) ∧ (↑i_1 : Int) < (↑(7 : Nat) : Int)) ∧
 nat_lit 0 + ((↑i : Int).toNat * (7 : Nat) + (↑i_1 : Int).toNat * (1 : Nat)) < (49 : Nat) ∧
 (decide
 (f (nat_lit 0 + ((↑i : Int).toNat * (7 : Nat) + (↑i_1 : Int).toNat * (1 : Nat))) >
 g (nat_lit 0 + ((↑i : Int).toNat * (7 : Nat) + (↑i_1 : Int).toNat * (1 : Nat)))) =
 true →
 false = withinP n c f m e g) ∧
 (decide
 (f (nat_lit 0 + ((↑i : Int).toNat * (7 : Nat) + (↑i_1 : Int).toNat * (1 : Nat))) >
 g (nat_lit 0 + ((↑i : Int).toNat * (7 : Nat) + (↑i_1 : Int).toNat * (1 : Nat)))) =
 false →
 ∃ (j : Nat),
 (j ≤ (rowsP n).toNat ∧ up (leP f g) (rowsP n).toNat (↑i : Int).toNat j) ∧
 (7 : Nat) - j < (7 : Nat) - i_1 ∧
 IntKind.i64.wrap ((↑i_1 : Int) + (1 : Int)) = (↑j : Int) ∧
 false = false ∧
 (↑i : Int) = (↑i : Int) ∧
 rowsP n = rowsP n ∧
 (↑i : Int) = (↑i : Int) ∧
 rowsP n = rowsP n ∧
 n = n ∧
 c = c ∧
 (∀ (o : Nat), o < nat_lit 49 → f o = f o) ∧
 m = m ∧ e = e ∧ ∀ (o : Nat), o < nat_lit 49 → g o = g o)) ∧
 (decide ((↑i_1 : Int) < rowsP n) = false →
 ∃ (j : Nat),
 (j ≤ (rowsP n).toNat ∧ up (leP f g) (rowsP n).toNat j (0 : Nat)) ∧
 (7 : Nat) - j < (7 : Nat) - i ∧
 IntKind.i64.wrap ((↑i : Int) + (1 : Int)) = (↑j : Int) ∧
 false = false ∧
 rowsP n = rowsP n ∧
 n = n ∧ c = c ∧ (∀ (o : Nat), o < nat_lit 49 → f o = f o) ∧ m = m ∧ e = e ∧ ∀ (o : Nat), o < nat_lit 49 → g o = g o)) ∧
 (decide ((↑i : Int) < rowsP n) = false → true = withinP n c f m e g))) (by kernel_rfl) ?_
    simp only [raw0, and_true, implies_true, Nat.mul_one, Int.toNat_natCast, c7, decide_eq_true_eq, decide_eq_false_iff_not, and_self]
    refine ⟨fun h => ?_, fun h => ?_⟩
    · unfold withinP; rw [if_pos h]
    · have hw : withinP n c f m e g = allB (leP f g) (rowsP n).toNat := by unfold withinP; rw [if_neg (by rw [h]; simp)]
      rw [hw]
      have hr := rowsP_le n
      obtain ⟨r, hre⟩ := Int.eq_ofNat_of_zero_le (show 0 ≤ rowsP n by omega)
      rw [hre] at hr ⊢
      simp only [Int.toNat_natCast]
      refine ⟨⟨0, ⟨by omega, up_zero _ _⟩, rfl⟩, fun k hk => ⟨fun h3 => ⟨⟨0, ⟨by omega, hk.2⟩, rfl⟩, ?_⟩, fun h3 => ?_⟩⟩
      · rintro b ⟨hb, hu⟩
        refine ⟨fun h4 => ?_, fun h4 => ?_⟩
        · refine ⟨by omega, by omega, by omega, by omega, by omega, by omega, fun h5 => ?_, fun h5 => ?_⟩
          · exact up_no (k := k) (m := b) (by omega) (by omega) (by omega) (decide_eq_false (by omega))
          · rw [wr ((b : Int) + 1) (by omega)]
            exact ⟨b + 1, ⟨by omega, up_step hu (by omega) (decide_eq_true (by omega))⟩, by omega, by omega⟩
        · rw [wr ((k : Int) + 1) (by omega)]
          have : b = r := by omega
          subst this
          exact ⟨k + 1, ⟨by omega, up_next hu⟩, by omega, by omega⟩
      · have : k = r := by omega
        subst this
        exact up_end hk.2
  · trivial
def joinS : FSpec := fun ds _ => match ds with
  | [.i n, .b c, .f f, .i m, .b e, .f g] => some { val := .one (.agg [.c (.int .i64 (.sym (n))), .c (.bool (.sym (jnC n c m e))), .ints .i64 (.lit 49) (jnF n c f m e g)]), vc := [] }
  | _ => none
def joinC : Con := con [zA, zA] joinS
theorem join_ok : ConOK Try.prog 109 joinC := by
  refine fn_ob tt_ok mixed Try.func109 rfl (fun _ _ => by kernel_rfl) (A := fun ds => ⟨fun _ => Cons.of [(114, rowsC)], fun k => match k, ds with | 6, [.i n, .b c, .f f, .i m, .b e, .f g] => some { ι := Nat, pre := fun _ k => k ≤ (rowsP n).toNat, μ := fun k => 7 - k, st := fun s k => fam s [(24, .one (.sc (.int .i64 (.sym (k : Nat)))))] [2, 3, 4, 23] 2 (.own 89 (zs (.sym n) (.sym c) (jnTo f g (rowsP n).toNat k 0))) [3, 4] } | 9, [.i n, .b c, .f f, .i m, .b e, .f g] => some { ι := Nat, pre := fun _ q => q ≤ (rowsP n).toNat, μ := fun q => 7 - q, st := fun s q => fam s [(29, .one (.sc (.int .i64 (.sym (q : Nat)))))] [2, 3, 4, 5, 23, 24, 28] 2 (.own 89 (zs (.sym n) (.sym c) (jnTo f g (rowsP n).toNat (slotN s 24) q))) [3, 4] } | _, _ => none, fun _ => none⟩) (fun _ _ => (cons_cons rows_ok cons_nil)) (by kernel_rfl) ?_
  intro ds fr
  unfold joinS
  split
  · rename_i n c f m e g
    refine kmp (q := ((n != m || e) = true → n = n ∧ c = jnC n c m e ∧ ∀ (o : Nat), o < (49 : Nat) → f o = jnF n c f m e g o) ∧
 ((n != m || e) = false →
 (c = true → m = n ∧ e = jnC n c m e ∧ ∀ (o : Nat), o < (49 : Nat) → g o = jnF n c f m e g o) ∧
 (c = false →
 (∃ (i : Nat),
 i.le (rowsP n).toNat ∧
 (0 : Int) = (↑i : Int) ∧
 rowsP n = rowsP n ∧
 n = n ∧
 c = c ∧
 (∀ (o : Nat), o < nat_lit 49 → f o = jnTo f g (rowsP n).toNat i (0 : Nat) o) ∧
 m = m ∧
 e = e ∧
 (∀ (o : Nat), o < nat_lit 49 → g o = g o) ∧
 (0 : Int) = (0 : Int) ∧ false = false ∧ ∀ (o : Nat), o < nat_lit 49 → (0 : Int) = (0 : Int)) ∧
 ∀ (i : Nat),
 i.le (rowsP n).toNat →
 (decide ((↑i : Int) < rowsP n) = true →
 (∃ (i_1 : Nat),
 i_1.le (rowsP n).toNat ∧
 (0 : Int) = (↑i_1 : Int) ∧
 (↑i : Int) = (↑i : Int) ∧
 rowsP n = rowsP n ∧
 (↑i : Int) = (↑i : Int) ∧
 rowsP n = rowsP n ∧
 n = n ∧
 c = c ∧
 (∀ (o : Nat), o < nat_lit 49 → jnTo f g (rowsP n).toNat i (0 : Nat) o = jnTo f g (rowsP n).toNat (↑i : Int).toNat i_1 o) ∧
 m = m ∧
 e = e ∧
 (∀ (o : Nat), o < nat_lit 49 → g o = g o) ∧
 (0 : Int) = (0 : Int) ∧ false = false ∧ ∀ (o : Nat), o < nat_lit 49 → (0 : Int) = (0 : Int)) ∧
 ∀ (i_1 : Nat),
 i_1.le (rowsP n).toNat →
 (decide ((↑i_1 : Int) < rowsP n) = true →
 ((0 : Int) ≤ (↑i : Int) ∧ (↑i : Int) < (↑(7 : Nat) : Int)) ∧
 ((0 : Int) ≤ (↑i_1 : Int) ∧ (↑i_1 : Int) < (↑(7 : Nat) : Int)) ∧
 nat_lit 0 + ((↑i : Int).toNat * (7 : Nat) + (↑i_1 : Int).toNat * (1 : Nat)) < (49 : Nat) ∧
 ((0 : Int) ≤ (↑i : Int) ∧ (↑i : Int) < (↑(7 : Nat) : Int)) ∧
 ((0 : Int) ≤ (↑i_1 : Int) ∧ (↑i_1 : Int) < (↑(7 : Nat) : Int)) ∧
 nat_lit 0 + ((↑i : Int).toNat * (7 : Nat) + (↑i_1 : Int).toNat * (1 : Nat)) < (49 : Nat) ∧
 ((0 : Int) ≤ (↑i : Int) ∧ (↑i : Int) < (↑(7 : Nat) : Int)) ∧
 ((0 : Int) ≤ (↑i_1 : Int) ∧ (↑i_1 : Int) < (↑(7 : Nat) : Int)) ∧
 nat_lit 0 + ((↑i : Int).toNat * (7 : Nat) + (↑i_1 : Int).toNat * (1 : Nat)) + (1 : Nat) ≤ (49 : Nat) ∧
 ∃ (j : Nat),
 j.le (rowsP n).toNat ∧
 (7 : Nat) - j < (7 : Nat) - i_1 ∧
 IntKind.i64.wrap ((↑i_1 : Int) + (1 : Int)) = (↑j : Int) ∧
 (↑i : Int) = (↑i : Int) ∧
 rowsP n = rowsP n ∧
 (↑i : Int) = (↑i : Int) ∧
 rowsP n = rowsP n ∧
 n = n ∧
 c = c ∧
 (∀ (o : Nat),
 o < nat_lit 49 →
 (if
 ((nat_lit 0 + ((↑i : Int).toNat * (7 : Nat) + (↑i_1 : Int).toNat * (1 : Nat))).ble
 o &&
 o.blt
 (nat_lit 0 +
 ((↑i : Int).toNat * (7 : Nat) + (↑i_1 : Int).toNat * (1 : Nat)) +
 (1 : Nat))) =
 true then
 if
 g
 (nat_lit 0 +
 ((↑i : Int).toNat * (7 : Nat) + (↑i_1 : Int).toNat * (1 : Nat))) >
 jnTo f g (rowsP n).toNat (↑i : Int).toNat i_1
 (nat_lit 0 +
 ((↑i : Int).toNat * (7 : Nat) + (↑i_1 : Int).toNat * (1 : Nat))) then
 g (nat_lit 0 + ((↑i : Int).toNat * (7 : Nat) + (↑i_1 : Int).toNat * (1 : Nat)))
 else
 jnTo f g (rowsP n).toNat (↑i : Int).toNat i_1
 (nat_lit 0 + ((↑i : Int).toNat * (7 : Nat) + (↑i_1 : Int).toNat * (1 : Nat)))
 else jnTo f g (rowsP n).toNat (↑i : Int).toNat i_1 o) =
 jnTo f g (rowsP n).toNat (↑i : Int).toNat j o) ∧
 m = m ∧
 e = e ∧
 (∀ (o : Nat), o < nat_lit 49 → g o = g o) ∧
 (0 : Int) = (0 : Int) ∧
 false = false ∧ ∀ (o : Nat), o < nat_lit 49 → (0 : Int) = (0 : Int)) ∧
 (decide ((↑i_1 : Int) < rowsP n) = false →
 ∃ (j : Nat),
 j.le (rowsP n).toNat ∧
 (7 : Nat) - j < (7 : Nat) - i ∧
 IntKind.i64.wrap ((↑i : Int) + (1 : Int)) = (↑j : Int) ∧
 rowsP n = rowsP n ∧
 n = n ∧
 c = c ∧
 (∀ (o : Nat),
 o < nat_lit 49 → jnTo f g (rowsP n).toNat (↑i : Int).toNat i_1 o = jnTo f g (rowsP n).toNat j (0 : Nat) o) ∧
 m = m ∧
 e = e ∧
 (∀ (o : Nat), o < nat_lit 49 → g o = g o) ∧
 (0 : Int) = (0 : Int) ∧ false = false ∧ ∀ (o : Nat), o < nat_lit 49 → (0 : Int) = (0 : Int))) ∧
 (decide ((↑i : Int) < rowsP n) = false →
 n = n ∧ c = jnC n c m e ∧ ∀ (o : Nat), o < (49 : Nat) → jnTo f g (rowsP n).toNat i (0 : Nat) o = jnF n c f m e g o)))) (by kernel_rfl) ?_
    simp only [raw0, true_and, and_true, implies_true, Nat.mul_one, Int.toNat_natCast, c7, decide_eq_true_eq, decide_eq_false_iff_not, Nat.le_eq, at_iff, and_self]
    refine ⟨fun h => ?_, fun h => ⟨fun h2 => ?_, fun h2 => ?_⟩⟩
    · unfold jnC jnF; simp only [if_pos h]; exact ⟨trivial, fun _ _ => trivial⟩
    · have hnm : m = n := by
        rw [Bool.or_eq_false_iff] at h
        have := h.1
        simp only [bne_eq_false_iff_eq] at this
        exact this.symm
      unfold jnC jnF
      simp only [h, h2, Bool.false_eq_true, if_false, if_true]
      exact ⟨hnm, trivial, fun _ _ => trivial⟩
    · unfold jnC jnF
      simp only [h, h2, Bool.false_eq_true, if_false]
      have hr := rowsP_le n
      obtain ⟨r, hre⟩ := Int.eq_ofNat_of_zero_le (show 0 ≤ rowsP n by omega)
      rw [hre] at hr ⊢
      simp only [Int.toNat_natCast]
      refine ⟨⟨0, by omega, rfl, fun o ho => ?_⟩, fun k hk => ⟨fun h3 => ⟨⟨0, by omega, rfl, fun o ho => rfl⟩, ?_⟩, fun h3 => ?_⟩⟩
      · unfold jnTo; rw [if_neg (by omega)]
      · intro b hb
        refine ⟨fun h4 => ?_, fun h4 => ?_⟩
        · have e1 : jnTo f g r k b (k * 7 + b) = f (k * 7 + b) := by unfold jnTo; rw [if_neg (by omega)]
          rw [e1, wr ((b : Int) + 1) (by omega)]
          refine ⟨by omega, by omega, by omega, by omega, by omega, by omega, by omega, by omega, by omega, b + 1, by omega, by omega, by omega, fun o ho => ?_⟩
          by_cases h6 : o = k * 7 + b
          · rw [if_pos h6]
            subst h6
            have e2 : jnTo f g r k (b + 1) (k * 7 + b) = max (f (k * 7 + b)) (g (k * 7 + b)) := by unfold jnTo; rw [if_pos (by omega)]
            rw [e2]
            split <;> omega
          · rw [if_neg h6]
            unfold jnTo
            exact icg (by omega) rfl rfl
        · rw [wr ((k : Int) + 1) (by omega)]
          refine ⟨k + 1, by omega, by omega, by omega, fun o ho => ?_⟩
          unfold jnTo
          exact icg (by omega) rfl rfl
      · have : k = r := by omega
        subst this
        exact ⟨trivial, fun o ho => rfl⟩
  · trivial
/-- A row of numbers. -/
def ig (d : D) : Nat → Int := fun j => (d.el j 0).toI
def zhasS : FSpec := fun ds _ => match ds with
  | [.i n, .b c, .f f, .d d] => some { val := .one (.sc (.bool (.sym (hasP n c f d.len (ig d))))), vc := [] }
  | _ => none
def zhasC : Con := con [zA, .sc (.rows 3)] zhasS
theorem zhas_ok : ConOK Try.prog 88 zhasC := by
  refine fn_ob tt_ok mixed Try.func88 rfl (fun _ _ => by kernel_rfl) (A := fun ds => ⟨fun _ => Cons.of [(114, rowsC), (115, iallC), (45, ihasC)], fun k => match k, ds with | 6, [.i n, .b c, .f f, .d d] => some { ι := Nat, pre := fun _ k => k ≤ (rowsP n).toNat ∧ up (hasQ f (hv d.len (ig d))) (rowsP n).toNat k 0, μ := fun k => 7 - k, st := fun s k => fam s [(27, .one (.sc (.int .i64 (.sym (k : Nat)))))] [2, 4, 5, 26] 5 (.own 86 [.ints .i64 (.lit 7) (hv d.len (ig d))]) [2] } | 9, [.i n, .b c, .f f, .d d] => some { ι := Nat, pre := fun s q => q ≤ (rowsP n).toNat ∧ up (hasQ f (hv d.len (ig d))) (rowsP n).toNat (slotN s 27) q, μ := fun q => 7 - q, st := fun s q => fam s [(32, .one (.sc (.int .i64 (.sym (q : Nat)))))] [2, 4, 5, 6, 26, 27, 31] 5 (.own 86 [.ints .i64 (.lit 7) (hv d.len (ig d))]) [2] } | _, _ => none, fun _ => none⟩) (fun _ _ => (cons_cons rows_ok (cons_cons iall_ok (cons_cons ihas_ok cons_nil)))) (by kernel_rfl) ?_
  intro ds fr
  unfold zhasS
  split
  · rename_i n c f d
    refine kmp (q := ((c || (↑d.len : Int) != n || decide (n > (6 : Int))) = true → false = hasP n c f d.len (ig d)) ∧
 ((c || (↑d.len : Int) != n || decide (n > (6 : Int))) = false →
 (0 : Nat) + nat_lit 1 * (1 : Nat) + d.len.min ((7 : Nat) - nat_lit 1) ≤ (7 : Nat) ∧
 (∃ (i : Nat),
 (i ≤ (rowsP n).toNat ∧ up (hasQ f (hv d.len (ig d))) (rowsP n).toNat i (0 : Nat)) ∧
 (0 : Int) = (↑i : Int) ∧
 false = false ∧
 rowsP n = rowsP n ∧
 (∀ (o : Nat),
 o < nat_lit 7 →
 (if
 (((0 : Nat) + nat_lit 1 * (1 : Nat)).ble o && o.blt ((0 : Nat) + nat_lit 1 * (1 : Nat) + d.len.min ((7 : Nat) - nat_lit 1))) =
 true then
 (d.el (o - ((0 : Nat) + nat_lit 1 * (1 : Nat))) (0 : Nat)).toI
 else (0 : Int)) =
 hv d.len (ig d) o) ∧
 n = n ∧ c = c ∧ ∀ (o : Nat), o < nat_lit 49 → f o = f o) ∧
 ∀ (i : Nat),
 i ≤ (rowsP n).toNat ∧ up (hasQ f (hv d.len (ig d))) (rowsP n).toNat i (0 : Nat) →
 (decide ((↑i : Int) < rowsP n) = true →
 (∃ (i_1 : Nat),
 (i_1 ≤ (rowsP n).toNat ∧ up (hasQ f (hv d.len (ig d))) (rowsP n).toNat (↑i : Int).toNat i_1) ∧
 (0 : Int) = (↑i_1 : Int) ∧
 false = false ∧
 (↑i : Int) = (↑i : Int) ∧
 rowsP n = rowsP n ∧
 (↑i : Int) = (↑i : Int) ∧
 rowsP n = rowsP n ∧
 (∀ (o : Nat), o < nat_lit 7 → hv d.len (ig d) o = hv d.len (ig d) o) ∧
 n = n ∧ c = c ∧ ∀ (o : Nat), o < nat_lit 49 → f o = f o) ∧
 ∀ (i_1 : Nat),
 i_1 ≤ (rowsP n).toNat ∧ up (hasQ f (hv d.len (ig d))) (rowsP n).toNat (↑i : Int).toNat i_1 →
 (decide ((↑i_1 : Int) < rowsP n) = true →
 ((0 : Int) ≤ (↑i : Int) ∧ (↑i : Int) < (↑(7 : Nat) : Int)) ∧
 (0 : Nat) + (↑i : Int).toNat * (1 : Nat) < (7 : Nat) ∧
 ((!(decide ((-2147483648 : Int) ≤ hv d.len (ig d) ((0 : Nat) + (↑i : Int).toNat * (1 : Nat))) &&
 decide (hv d.len (ig d) ((0 : Nat) + (↑i : Int).toNat * (1 : Nat)) ≤ (2147483647 : Int)))) =
 false ∧
 True →
 (0 : Int) ≤ (↑i : Int) ∧ (↑i : Int) < (↑(7 : Nat) : Int)) ∧
 ((!(decide ((-2147483648 : Int) ≤ hv d.len (ig d) ((0 : Nat) + (↑i : Int).toNat * (1 : Nat))) &&
 decide (hv d.len (ig d) ((0 : Nat) + (↑i : Int).toNat * (1 : Nat)) ≤ (2147483647 : Int)))) =
 false ∧
 True →
 (0 : Nat) + (↑i : Int).toNat * (1 : Nat) < (7 : Nat)) ∧
 ((!(decide ((-2147483648 : Int) ≤ hv d.len (ig d) ((0 : Nat) + (↑i : Int).toNat * (1 : Nat))) &&
 decide (hv d.len (ig d) ((0 : Nat) + (↑i : Int).toNat * (1 : Nat)) ≤ (2147483647 : Int)))) =
 false ∧
 True →
 (0 : Int) ≤ (↑i_1 : Int) ∧ (↑i_1 : Int) < (↑(7 : Nat) : Int)) ∧
 ((!(decide ((-2147483648 : Int) ≤ hv d.len (ig d) ((0 : Nat) + (↑i : Int).toNat * (1 : Nat))) &&
 decide (hv d.len (ig d) ((0 : Nat) + (↑i : Int).toNat * (1 : Nat)) ≤ (2147483647 : Int)))) =
 false ∧
 True →
 (0 : Nat) + (↑i_1 : Int).toNat * (1 : Nat) < (7 : Nat)) ∧
 ((!(decide ((-2147483648 : Int) ≤ hv d.len (ig d) ((0 : Nat) + (↑i : Int).toNat * (1 : Nat))) &&
 decide (hv d.len (ig d) ((0 : Nat) + (↑i : Int).toNat * (1 : Nat)) ≤ (2147483647 : Int)))) =
 false ∧
 True →
 (0 : Int) ≤ (↑i : Int) ∧ (↑i : Int) < (↑(7 : Nat) : Int)) ∧
 ((!(decide ((-2147483648 : Int) ≤ hv d.len (ig d) ((0 : Nat) + (↑i : Int).toNat * (1 : Nat))) &&
 decide (hv d.len (ig d) ((0 : Nat) + (↑i : Int).toNat * (1 : Nat)) ≤ (2147483647 : Int)))) =
 false ∧
 True →
 (0 : Int) ≤ (↑i_1 : Int) ∧ (↑i_1 : Int) < (↑(7 : Nat) : Int)) ∧
 ((!(decide ((-2147483648 : Int) ≤ hv d.len (ig d) ((0 : Nat) + (↑i : Int).toNat * (1 : Nat))) &&
 decide (hv d.len (ig d) ((0 : Nat) + (↑i : Int).toNat * (1 : Nat)) ≤ (2147483647 : Int)))) =
 false ∧
 True →
 nat_lit 0 + ((↑i : Int).toNat * (7 : Nat) + (↑i_1 : Int).toNat * (1 : Nat)) < (49 : Nat)) ∧
 ((!(decide ((-2147483648 : Int) ≤ hv d.len (ig d) ((0 : Nat) + (↑i : Int).toNat * (1 : Nat))) &&
 decide (hv d.len (ig d) ((0 : Nat) + (↑i : Int).toNat * (1 : Nat)) ≤ (2147483647 : Int))) ||
 decide
 (IntKind.i64.wrap
 (hv d.len (ig d) ((0 : Nat) + (↑i : Int).toNat * (1 : Nat)) -
 hv d.len (ig d) ((0 : Nat) + (↑i_1 : Int).toNat * (1 : Nat))) >
 f (nat_lit 0 + ((↑i : Int).toNat * (7 : Nat) + (↑i_1 : Int).toNat * (1 : Nat))))) =
 true →
 false = hasP n c f d.len (ig d)) ∧
 ((!(decide ((-2147483648 : Int) ≤ hv d.len (ig d) ((0 : Nat) + (↑i : Int).toNat * (1 : Nat))) &&
 decide (hv d.len (ig d) ((0 : Nat) + (↑i : Int).toNat * (1 : Nat)) ≤ (2147483647 : Int))) ||
 decide
 (IntKind.i64.wrap
 (hv d.len (ig d) ((0 : Nat) + (↑i : Int).toNat * (1 : Nat)) -
 hv d.len (ig d) ((0 : Nat) + (↑i_1 : Int).toNat * (1 : Nat))) >
 f (nat_lit 0 + ((↑i : Int).toNat * (7 : Nat) + (↑i_1 : Int).toNat * (1 : Nat))))) =
 false →
 ∃ (j : Nat),
 (j ≤ (rowsP n).toNat ∧ up (hasQ f (hv d.len (ig d))) (rowsP n).toNat (↑i : Int).toNat j) ∧
 (7 : Nat) - j < (7 : Nat) - i_1 ∧
 IntKind.i64.wrap ((↑i_1 : Int) + (1 : Int)) = (↑j : Int) ∧
 false = false ∧
 (↑i : Int) = (↑i : Int) ∧
 rowsP n = rowsP n ∧
 (↑i : Int) = (↑i : Int) ∧
 rowsP n = rowsP n ∧
 (∀ (o : Nat), o < nat_lit 7 → hv d.len (ig d) o = hv d.len (ig d) o) ∧
 n = n ∧ c = c ∧ ∀ (o : Nat), o < nat_lit 49 → f o = f o)) ∧
 (decide ((↑i_1 : Int) < rowsP n) = false →
 ∃ (j : Nat),
 (j ≤ (rowsP n).toNat ∧ up (hasQ f (hv d.len (ig d))) (rowsP n).toNat j (0 : Nat)) ∧
 (7 : Nat) - j < (7 : Nat) - i ∧
 IntKind.i64.wrap ((↑i : Int) + (1 : Int)) = (↑j : Int) ∧
 false = false ∧
 rowsP n = rowsP n ∧
 (∀ (o : Nat), o < nat_lit 7 → hv d.len (ig d) o = hv d.len (ig d) o) ∧
 n = n ∧ c = c ∧ ∀ (o : Nat), o < nat_lit 49 → f o = f o)) ∧
 (decide ((↑i : Int) < rowsP n) = false → true = hasP n c f d.len (ig d)))) (by kernel_rfl) ?_
    simp only [raw0, true_and, and_true, implies_true, Nat.mul_one, Int.toNat_natCast, c7, decide_eq_true_eq, decide_eq_false_iff_not, and_self]
    refine ⟨fun h => ?_, fun h => ?_⟩
    · unfold hasP; rw [if_pos h]
    · have hw : hasP n c f d.len (ig d) = allB (hasQ f (hv d.len (ig d))) (rowsP n).toNat := by unfold hasP; rw [if_neg (by rw [h]; simp)]
      rw [hw]
      have hr := rowsP_le n
      obtain ⟨r, hre⟩ := Int.eq_ofNat_of_zero_le (show 0 ≤ rowsP n by omega)
      rw [hre] at hr ⊢
      simp only [Int.toNat_natCast]
      have hl1 : Nat.min d.len 6 ≤ d.len := Nat.min_le_left d.len 6
      have hl2 : Nat.min d.len 6 ≤ 6 := Nat.min_le_right d.len 6
      refine ⟨show 1 + Nat.min d.len 6 ≤ 7 by omega, ⟨0, ⟨by omega, up_zero _ _⟩, rfl, fun o ho => rfl⟩, fun k hk => ⟨fun h3 => ⟨⟨0, ⟨by omega, hk.2⟩, rfl⟩, ?_⟩, fun h3 => ?_⟩⟩
      · rintro b ⟨hb, hu⟩
        refine ⟨fun h4 => ?_, fun h4 => ?_⟩
        · have hq := hasQ_eq (f := f) (v := hv d.len (ig d)) (k := k) (m := b) (by omega)
          refine ⟨by omega, by omega, fun _ => by omega, fun _ => by omega, fun _ => by omega, fun _ => by omega, fun _ => by omega, fun _ => by omega, fun _ => by omega, fun h5 => ?_, fun h5 => ?_⟩
          · exact up_no (k := k) (m := b) (by omega) (by omega) (by omega) (by rw [hq, h5]; rfl)
          · rw [wr ((b : Int) + 1) (by omega)]
            exact ⟨b + 1, ⟨by omega, up_step hu (by omega) (by rw [hq, h5]; rfl)⟩, by omega, by omega⟩
        · rw [wr ((k : Int) + 1) (by omega)]
          have : b = r := by omega
          subst this
          exact ⟨k + 1, ⟨by omega, up_next hu⟩, by omega, by omega⟩
      · have : k = r := by omega
        subst this
        exact up_end hk.2
  · trivial
def brightS : FSpec := fun ds _ => match ds with
  | [.i n, .b _, .f _, .i i, .i j, .i b] => some { val := .one (.sc (.bool (.sym (bRight n i j b)))), vc := [] }
  | _ => none
def brightC : Con := con [zA, iA, iA, iA] brightS
theorem bright_ok : ConOK Try.prog 144 brightC := by
  refine fn_ob tt_ok mixed Try.func144 rfl (fun _ _ => by kernel_rfl) (A := fun ds => ⟨fun _ => Cons.of [(114, rowsC)], fun _ => none, fun _ => none⟩) (fun _ _ => (cons_cons rows_ok cons_nil)) (by kernel_rfl) ?_
  intro ds fr
  unfold brightS
  split
  · rename_i n c f i j b
    refine kmp (q := ((i == j || decide (i ≥ rowsP n) || decide (j ≥ rowsP n)) = true → (b == (0 : Int)) = bRight n i j b) ∧
 ((i == j || decide (i ≥ rowsP n) || decide (j ≥ rowsP n)) = false →
 ((j == (0 : Int) && decide (b > (2147483647 : Int)) || i == (0 : Int) && decide (b > (2147483648 : Int))) = true → false = bRight n i j b) ∧
 ((j == (0 : Int) && decide (b > (2147483647 : Int)) || i == (0 : Int) && decide (b > (2147483648 : Int))) = false →
 (decide (b > (-1099511627776 : Int)) && decide (b < (1099511627776 : Int))) = bRight n i j b))) (by kernel_rfl) ?_
    unfold bRight
    refine ⟨fun h => ?_, fun h => ⟨fun h2 => ?_, fun h2 => ?_⟩⟩
    · rw [if_pos h]
    · rw [if_neg (by rw [h]; simp), if_pos h2]
    · rw [if_neg (by rw [h]; simp), if_neg (by rw [h2]; simp)]
  · trivial
def bsrightS : FSpec := fun ds _ => match ds with
  | [.i n, .b _c, .f f] => some { val := .one (.sc (.bool (.sym (bsRight n f)))), vc := [] }
  | _ => none
def bsrightC : Con := con [zA] bsrightS
theorem bsright_ok : ConOK Try.prog 116 bsrightC := by
  refine fn_ob tt_ok mixed Try.func116 rfl (fun _ _ => by kernel_rfl) (A := fun ds => ⟨fun _ => Cons.of [(144, brightC)], fun k => match k, ds with | 2, [.i n, .b c, .f f] => some { ι := Nat, pre := fun _ k => k ≤ 7 ∧ up (bQ n f) 7 k 0, μ := fun k => 7 - k, st := fun s k => famS s [(9, .one (.sc (.int .i64 (.sym (k : Nat)))))] [1, 2, 8] [1] } | 5, [.i n, .b c, .f f] => some { ι := Nat, pre := fun s q => q ≤ 7 ∧ up (bQ n f) 7 (slotN s 9) q, μ := fun q => 7 - q, st := fun s q => famS s ([(14, .one (.sc (.int .i64 (.sym (q : Nat)))))] ++ [(13, .one (.agg [.ints .i64 (.lit 7) (fun o => f (slotN s 9 * 7 + o))]))]) [1, 2, 3, 8, 9] [1] } | _, _ => none, fun _ => none⟩) (fun _ _ => (cons_cons bright_ok cons_nil)) (by kernel_rfl) ?_
  intro ds fr
  unfold bsrightS
  split
  · rename_i n c f
    refine kmp (q := (∃ (i : Nat),
 (i ≤ (7 : Nat) ∧ up (bQ n f) (7 : Nat) i (0 : Nat)) ∧
 (0 : Int) = (↑i : Int) ∧ false = false ∧ (∀ (o : Nat), o < nat_lit 49 → f o = f o) ∧ n = n ∧ c = c ∧ ∀ (o : Nat), o < nat_lit 49 → f o = f o) ∧
 ∀ (i : Nat),
 i ≤ (7 : Nat) ∧ up (bQ n f) (7 : Nat) i (0 : Nat) →
 (decide ((↑i : Int) < (7 : Int)) = true →
 ((0 : Int) ≤ (↑i : Int) ∧ (↑i : Int) < (↑(7 : Nat) : Int)) ∧
 (0 : Nat) + (↑i : Int).toNat * (7 : Nat) + (7 : Nat) ≤ (49 : Nat) ∧
 (∃ (i_1 : Nat),
 (i_1 ≤ (7 : Nat) ∧ up (bQ n f) (7 : Nat) (↑i : Int).toNat i_1) ∧
 (0 : Int) = (↑i_1 : Int) ∧
 (∀ (o : Nat), o < nat_lit 7 → f ((0 : Nat) + (↑i : Int).toNat * (7 : Nat) + o) = f ((↑i : Int).toNat * (7 : Nat) + o)) ∧
 false = false ∧
 (↑i : Int) = (↑i : Int) ∧
 (∀ (o : Nat), o < nat_lit 49 → f o = f o) ∧ (↑i : Int) = (↑i : Int) ∧ n = n ∧ c = c ∧ ∀ (o : Nat), o < nat_lit 49 → f o = f o) ∧
 ∀ (i_1 : Nat),
 i_1 ≤ (7 : Nat) ∧ up (bQ n f) (7 : Nat) (↑i : Int).toNat i_1 →
 (decide ((↑i_1 : Int) < (7 : Int)) = true →
 ((0 : Int) ≤ (↑i_1 : Int) ∧ (↑i_1 : Int) < (↑(7 : Nat) : Int)) ∧
 (0 : Nat) + (↑i_1 : Int).toNat * (1 : Nat) < (7 : Nat) ∧
 ((!bRight n (↑i : Int) (↑i_1 : Int) (f ((↑i : Int).toNat * (7 : Nat) + ((0 : Nat) + (↑i_1 : Int).toNat * (1 : Nat))))) = true →
 false = bsRight n f) ∧
 ((!bRight n (↑i : Int) (↑i_1 : Int) (f ((↑i : Int).toNat * (7 : Nat) + ((0 : Nat) + (↑i_1 : Int).toNat * (1 : Nat))))) = false →
 ∃ (j : Nat),
 (j ≤ (7 : Nat) ∧ up (bQ n f) (7 : Nat) (↑i : Int).toNat j) ∧
 (7 : Nat) - j < (7 : Nat) - i_1 ∧
 IntKind.i64.wrap ((↑i_1 : Int) + (1 : Int)) = (↑j : Int) ∧
 (∀ (o : Nat), o < nat_lit 7 → f ((↑i : Int).toNat * (7 : Nat) + o) = f ((↑i : Int).toNat * (7 : Nat) + o)) ∧
 false = false ∧
 (↑i : Int) = (↑i : Int) ∧
 (∀ (o : Nat), o < nat_lit 49 → f o = f o) ∧
 (↑i : Int) = (↑i : Int) ∧ n = n ∧ c = c ∧ ∀ (o : Nat), o < nat_lit 49 → f o = f o)) ∧
 (decide ((↑i_1 : Int) < (7 : Int)) = false →
 ∃ (j : Nat),
 (j ≤ (7 : Nat) ∧ up (bQ n f) (7 : Nat) j (0 : Nat)) ∧
 (7 : Nat) - j < (7 : Nat) - i ∧
 IntKind.i64.wrap ((↑i : Int) + (1 : Int)) = (↑j : Int) ∧
 false = false ∧ (∀ (o : Nat), o < nat_lit 49 → f o = f o) ∧ n = n ∧ c = c ∧ ∀ (o : Nat), o < nat_lit 49 → f o = f o)) ∧
 (decide ((↑i : Int) < (7 : Int)) = false → true = bsRight n f)) (by kernel_rfl) ?_
    simp only [raw0, and_true, implies_true, Nat.mul_one, Int.toNat_natCast, c7, decide_eq_true_eq, decide_eq_false_iff_not, and_self]
    unfold bsRight
    refine ⟨⟨0, ⟨by omega, up_zero _ _⟩, rfl⟩, fun k hk => ⟨fun h3 => ⟨by omega, by omega, ⟨0, ⟨by omega, hk.2⟩, rfl⟩, ?_⟩, fun h3 => ?_⟩⟩
    · rintro b ⟨hb, hu⟩
      refine ⟨fun h4 => ?_, fun h4 => ?_⟩
      · have hq : bQ n f (k * 7 + b) = bRight n k b (f (k * 7 + b)) := by
          unfold bQ
          rw [(dm7 (k := k) (m := b) (by omega)).1, (dm7 (k := k) (m := b) (by omega)).2]
        refine ⟨by omega, by omega, fun h5 => ?_, fun h5 => ?_⟩
        · exact up_no (k := k) (m := b) (by omega) (by omega) (by omega) (by rw [hq]; revert h5; cases bRight n k b (f (k * 7 + b)) <;> simp)
        · rw [wr ((b : Int) + 1) (by omega)]
          exact ⟨b + 1, ⟨by omega, up_step hu (by omega) (by rw [hq]; revert h5; cases bRight n k b (f (k * 7 + b)) <;> simp)⟩, by omega, by omega⟩
      · rw [wr ((k : Int) + 1) (by omega)]
        have : b = 7 := by omega
        subst this
        exact ⟨k + 1, ⟨by omega, up_next hu⟩, by omega, by omega⟩
    · have : k = 7 := by omega
      subst this
      exact up_end hk.2
  · trivial
def closedS : FSpec := fun ds _ => match ds with
  | [.i n, .b _c, .f f] => some { val := .one (.sc (.bool (.sym (closedB (rowsP n).toNat f)))), vc := [Sm f] }
  | _ => none
def closedC : Con := con [zA] closedS
theorem closed_ok : ConOK Try.prog 117 closedC := by
  refine fn_ob tt_ok mixed Try.func117 rfl (fun _ _ => by kernel_rfl) (A := fun ds => ⟨fun _ => Cons.of [(114, rowsC)], fun k => match k, ds with | 2, [.i n, .b c, .f f] => some { ι := Nat, pre := fun _ k => k ≤ (rowsP n).toNat ∧ clUp f (rowsP n).toNat k 0 0, μ := fun k => 7 - k, st := fun s k => famS s [(8, .one (.sc (.int .i64 (.sym (k : Nat)))))] [1, 2, 7] [1] } | 5, [.i n, .b c, .f f] => some { ι := Nat, pre := fun s q => q ≤ (rowsP n).toNat ∧ clUp f (rowsP n).toNat (slotN s 8) q 0, μ := fun q => 7 - q, st := fun s q => famS s [(13, .one (.sc (.int .i64 (.sym (q : Nat)))))] [1, 2, 3, 7, 8, 12] [1] } | 8, [.i n, .b c, .f f] => some { ι := Nat, pre := fun s q => q ≤ (rowsP n).toNat ∧ clUp f (rowsP n).toNat (slotN s 8) (slotN s 13) q, μ := fun q => 7 - q, st := fun s q => famS s [(18, .one (.sc (.int .i64 (.sym (q : Nat)))))] [1, 2, 3, 4, 7, 8, 12, 13, 17] [1] } | _, _ => none, fun _ => none⟩) (fun _ _ => (cons_cons rows_ok cons_nil)) (by kernel_rfl) ?_
  intro ds fr
  unfold closedS
  split
  · rename_i n c f
    refine kmp (q := Sm f →
 (∃ (i : Nat),
 (i ≤ (rowsP n).toNat ∧ clUp f (rowsP n).toNat i (0 : Nat) (0 : Nat)) ∧
 (0 : Int) = (↑i : Int) ∧ false = false ∧ rowsP n = rowsP n ∧ n = n ∧ c = c ∧ ∀ (o : Nat), o < nat_lit 49 → f o = f o) ∧
 ∀ (i : Nat),
 i ≤ (rowsP n).toNat ∧ clUp f (rowsP n).toNat i (0 : Nat) (0 : Nat) →
 (decide ((↑i : Int) < rowsP n) = true →
 (∃ (i_1 : Nat),
 (i_1 ≤ (rowsP n).toNat ∧ clUp f (rowsP n).toNat (↑i : Int).toNat i_1 (0 : Nat)) ∧
 (0 : Int) = (↑i_1 : Int) ∧
 false = false ∧
 (↑i : Int) = (↑i : Int) ∧
 rowsP n = rowsP n ∧ (↑i : Int) = (↑i : Int) ∧ rowsP n = rowsP n ∧ n = n ∧ c = c ∧ ∀ (o : Nat), o < nat_lit 49 → f o = f o) ∧
 ∀ (i_1 : Nat),
 i_1 ≤ (rowsP n).toNat ∧ clUp f (rowsP n).toNat (↑i : Int).toNat i_1 (0 : Nat) →
 (decide ((↑i_1 : Int) < rowsP n) = true →
 (∃ (i_2 : Nat),
 (i_2 ≤ (rowsP n).toNat ∧ clUp f (rowsP n).toNat (↑i : Int).toNat (↑i_1 : Int).toNat i_2) ∧
 (0 : Int) = (↑i_2 : Int) ∧
 false = false ∧
 (↑i : Int) = (↑i : Int) ∧
 (↑i_1 : Int) = (↑i_1 : Int) ∧
 rowsP n = rowsP n ∧
 (↑i : Int) = (↑i : Int) ∧
 rowsP n = rowsP n ∧
 (↑i_1 : Int) = (↑i_1 : Int) ∧ rowsP n = rowsP n ∧ n = n ∧ c = c ∧ ∀ (o : Nat), o < nat_lit 49 → f o = f o) ∧
 ∀ (i_2 : Nat),
 i_2 ≤ (rowsP n).toNat ∧ clUp f (rowsP n).toNat (↑i : Int).toNat (↑i_1 : Int).toNat i_2 →
 (decide ((↑i_2 : Int) < rowsP n) = true →
 ((0 : Int) ≤ (↑i : Int) ∧ (↑i : Int) < (↑(7 : Nat) : Int)) ∧
 ((0 : Int) ≤ (↑i_1 : Int) ∧ (↑i_1 : Int) < (↑(7 : Nat) : Int)) ∧
 nat_lit 0 + ((↑i : Int).toNat * (7 : Nat) + (↑i_1 : Int).toNat * (1 : Nat)) < (49 : Nat) ∧
 ((0 : Int) ≤ (↑i : Int) ∧ (↑i : Int) < (↑(7 : Nat) : Int)) ∧
 ((0 : Int) ≤ (↑i_2 : Int) ∧ (↑i_2 : Int) < (↑(7 : Nat) : Int)) ∧
 nat_lit 0 + ((↑i : Int).toNat * (7 : Nat) + (↑i_2 : Int).toNat * (1 : Nat)) < (49 : Nat) ∧
 ((0 : Int) ≤ (↑i_2 : Int) ∧ (↑i_2 : Int) < (↑(7 : Nat) : Int)) ∧
 ((0 : Int) ≤ (↑i_1 : Int) ∧ (↑i_1 : Int) < (↑(7 : Nat) : Int)) ∧
 nat_lit 0 + ((↑i_2 : Int).toNat * (7 : Nat) + (↑i_1 : Int).toNat * (1 : Nat)) < (49 : Nat) ∧
 (decide
 (f (nat_lit 0 + ((↑i : Int).toNat * (7 : Nat) + (↑i_1 : Int).toNat * (1 : Nat))) >
 IntKind.i64.wrap
 (f (nat_lit 0 + ((↑i : Int).toNat * (7 : Nat) + (↑i_2 : Int).toNat * (1 : Nat))) +
 f (nat_lit 0 + ((↑i_2 : Int).toNat * (7 : Nat) + (↑i_1 : Int).toNat * (1 : Nat))))) =
 true →
 false = closedB (rowsP n).toNat f) ∧
 (decide
 (f (nat_lit 0 + ((↑i : Int).toNat * (7 : Nat) + (↑i_1 : Int).toNat * (1 : Nat))) >
 IntKind.i64.wrap
 (f (nat_lit 0 + ((↑i : Int).toNat * (7 : Nat) + (↑i_2 : Int).toNat * (1 : Nat))) +
 f (nat_lit 0 + ((↑i_2 : Int).toNat * (7 : Nat) + (↑i_1 : Int).toNat * (1 : Nat))))) =
 false →
 ∃ (j : Nat),
 (j ≤ (rowsP n).toNat ∧ clUp f (rowsP n).toNat (↑i : Int).toNat (↑i_1 : Int).toNat j) ∧
 (7 : Nat) - j < (7 : Nat) - i_2 ∧
 IntKind.i64.wrap ((↑i_2 : Int) + (1 : Int)) = (↑j : Int) ∧
 false = false ∧
 (↑i : Int) = (↑i : Int) ∧
 (↑i_1 : Int) = (↑i_1 : Int) ∧
 rowsP n = rowsP n ∧
 (↑i : Int) = (↑i : Int) ∧
 rowsP n = rowsP n ∧
 (↑i_1 : Int) = (↑i_1 : Int) ∧
 rowsP n = rowsP n ∧ n = n ∧ c = c ∧ ∀ (o : Nat), o < nat_lit 49 → f o = f o)) ∧
 (decide ((↑i_2 : Int) < rowsP n) = false →
 ∃ (j : Nat),
 (j ≤ (rowsP n).toNat ∧ clUp f (rowsP n).toNat (↑i : Int).toNat j (0 : Nat)) ∧
 (7 : Nat) - j < (7 : Nat) - i_1 ∧
 IntKind.i64.wrap ((↑i_1 : Int) + (1 : Int)) = (↑j : Int) ∧
 false = false ∧
 (↑i : Int) = (↑i : Int) ∧
 rowsP n = rowsP n ∧
 (↑i : Int) = (↑i : Int) ∧ rowsP n = rowsP n ∧ n = n ∧ c = c ∧ ∀ (o : Nat), o < nat_lit 49 → f o = f o)) ∧
 (decide ((↑i_1 : Int) < rowsP n) = false →
 ∃ (j : Nat),
 (j ≤ (rowsP n).toNat ∧ clUp f (rowsP n).toNat j (0 : Nat) (0 : Nat)) ∧
 (7 : Nat) - j < (7 : Nat) - i ∧
 IntKind.i64.wrap ((↑i : Int) + (1 : Int)) = (↑j : Int) ∧
 false = false ∧ rowsP n = rowsP n ∧ n = n ∧ c = c ∧ ∀ (o : Nat), o < nat_lit 49 → f o = f o)) ∧
 (decide ((↑i : Int) < rowsP n) = false → true = closedB (rowsP n).toNat f)) (by kernel_rfl) ?_
    simp only [raw0, and_true, implies_true, Nat.mul_one, Int.toNat_natCast, c7, decide_eq_true_eq, decide_eq_false_iff_not, and_self]
    intro hs
    have hr := rowsP_le n
    obtain ⟨r, hre⟩ := Int.eq_ofNat_of_zero_le (show 0 ≤ rowsP n by omega)
    rw [hre] at hr ⊢
    simp only [Int.toNat_natCast]
    refine ⟨⟨0, ⟨by omega, cl_zero _ _⟩, rfl⟩, fun k hk => ⟨fun h3 => ⟨⟨0, ⟨by omega, hk.2⟩, rfl⟩, fun b hb => ⟨fun h4 => ⟨⟨0, ⟨by omega, hb.2⟩, rfl⟩, fun d hd => ⟨fun h5 => ?_, fun h5 => ?_⟩⟩, fun h4 => ?_⟩⟩, fun h3 => ?_⟩⟩
    · have q1 := hs (k * 7 + d) (by omega)
      have q2 := hs (d * 7 + b) (by omega)
      rw [wr (f (k * 7 + d) + f (d * 7 + b)) (by omega), wr ((d : Int) + 1) (by omega)]
      refine ⟨by omega, by omega, by omega, by omega, by omega, by omega, by omega, by omega, by omega, fun h6 => cl_no (a := k) (b := b) (c := d) (by omega) (by omega) (by omega) ?_, fun h6 => ⟨d + 1, ⟨by omega, cl_step hd.2 ?_⟩, by omega, by omega⟩⟩
      · unfold tri; omega
      · unfold tri; omega
    · rw [wr ((b : Int) + 1) (by omega)]
      have : d = r := by omega
      subst this
      exact ⟨b + 1, ⟨by omega, cl_next2 hd.2⟩, by omega, by omega⟩
    · rw [wr ((k : Int) + 1) (by omega)]
      have : b = r := by omega
      subst this
      exact ⟨k + 1, ⟨by omega, cl_next1 hb.2⟩, by omega, by omega⟩
    · have : k = r := by omega
      subst this
      exact cl_end hk.2
  · trivial
def zrightS : FSpec := fun ds _ => match ds with
  | [.i n, .b c, .f f] => some { val := .one (.sc (.bool (.sym (rightP n c f)))), vc := [] }
  | _ => none
def zrightC : Con := con [zA] zrightS
theorem zright_ok : ConOK Try.prog 89 zrightC := by
  refine fn_ob tt_ok mixed Try.func89 rfl (fun _ _ => by kernel_rfl) (A := fun ds => ⟨fun _ => Cons.of [(116, bsrightC), (117, closedC)], fun _ => none, fun _ => none⟩) (fun _ _ => (cons_cons bsright_ok (cons_cons closed_ok cons_nil))) (by kernel_rfl) ?_
  intro ds fr
  unfold zrightS
  split
  · rename_i n c f
    refine kmp (q := ((decide (n < (0 : Int)) || decide (n > (6 : Int))) = true → false = rightP n c f) ∧
 ((decide (n < (0 : Int)) || decide (n > (6 : Int))) = false →
 (c = true → (decide (∀ (o : Nat), o < (49 : Nat) → f o = (0 : Int)) && true) = rightP n c f) ∧
 (c = false → (bsRight n f = true ∧ True → Sm f) ∧ (bsRight n f && closedB (rowsP n).toNat f) = rightP n c f))) (by kernel_rfl) ?_
    refine ⟨fun h => ?_, fun h => ⟨fun h2 => ?_, fun h2 => ⟨fun h3 => ?_, ?_⟩⟩⟩
    · unfold rightP; rw [if_pos h]
    · unfold rightP; rw [if_neg (by rw [h]; simp), if_pos h2, Bool.and_true]; rfl
    · exact bs_sm h3.1
    · unfold rightP; rw [if_neg (by rw [h]; simp), if_neg (by rw [h2]; simp)]
  · trivial
end Go.Proofs.Ytbcbcambkjhhhaa.Sx.Z
