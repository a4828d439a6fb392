/-
  zone.Bound, apart, Top, Forget, shifted: what they tell.; zone.Within, Join, Widen, Has, Right: what they tell.; Zones that calls tell: closed bounds, their points; zone.Copy.; zone.Copy; what Top and Zeros tell is right.; A zone's numbers through all calls; rows of numbers.; The reference's Close: rounds over all three.; What the reference's rounds come to: the least bounds of the same numbers.
-/
import Derived.Test.YtdagadcflignfaaB16
namespace Go.Proofs.Ytdagadcflignfaa.Sx.Z
open Go.RowKit
def bndC (n : Int) (c : Bool) (f : Nat → Int) (x y by' : Int) : Bool := if (c || !isEndP n x || !isEndP n y) = true then c else bdC c f (x + 1).toNat (y + 1).toNat by'
def bndF (n : Int) (c : Bool) (f : Nat → Int) (x y by' : Int) (o : Nat) : Int := if (c || !isEndP n x || !isEndP n y) = true then f o else bdF n f (x + 1).toNat (y + 1).toNat by' o
theorem isEndP_lt {n x : Int} (h : isEndP n x = true) : -1 ≤ x ∧ x < rowsP n - 1 ∧ x ≤ 5 := by
  have := rowsP_le n
  unfold isEndP at h
  rcases Bool.or_eq_true_iff.1 h with h | h
  · have := eq_of_beq h; omega
  · have := isVarP_lt h; omega
/-- Rows below k, of row k the columns below m. -/
def apTo (f : Nat → Int) (r k m : Nat) (o : Nat) : Int := if (o / 7 < k ∨ o / 7 = k ∧ o % 7 < m) ∧ o % 7 < r ∧ 1 ≤ o / 7 ∧ 1 ≤ o % 7 ∧ o / 7 ≠ o % 7 then f (o / 7 * 7) + f (o % 7) else f o
def apF (n : Int) (f : Nat → Int) (o : Nat) : Int := apTo f (rowsP n).toNat (rowsP n).toNat 0 o
/-- Of Forget the columns and rows below k. -/
def fgTo (f : Nat → Int) (i k : Nat) (o : Nat) : Int := if o / 7 = i ∧ o % 7 ≠ i ∧ o % 7 < k then 2147483647 + f (o % 7) else if o % 7 = i ∧ o / 7 ≠ i ∧ o / 7 < k then f (o / 7 * 7) + 2147483648 else f o
def forgetF (n : Int) (c : Bool) (f : Nat → Int) (x : Int) (o : Nat) : Int := if (c || !isVarP n x) = true then f o else fgTo f (x + 1).toNat (rowsP n).toNat o
def shTo (f : Nat → Int) (i : Nat) (by' : Int) (k : Nat) (o : Nat) : Int := if o / 7 = i ∧ o % 7 ≠ i ∧ o % 7 < k then f o + by' else if o % 7 = i ∧ o / 7 ≠ i ∧ o / 7 < k then f o - by' else f o
def shiftF (n : Int) (c : Bool) (f : Nat → Int) (i : Nat) (by' : Int) (o : Nat) : Int := if c = true then f o else shTo f i by' (rowsP n).toNat o
def topN (n : Int) : Int := min (max n 0) 6
def topTo (k : Nat) (o : Nat) : Int := if 1 ≤ o / 7 ∧ o / 7 < k ∧ o % 7 = 0 then 2147483647 else if 1 ≤ o ∧ o < k then 2147483648 else 0
def topF (n : Int) : Nat → Int := apF (topN n) (topTo (topN n + 1).toNat)
def boundS : FSpec := fun ds _ => match ds with
  | [.i n, .b c, .f f, .i x, .i y, .i by_] => some { val := .one (.agg [.c (.int .i64 (.sym (n))), .c (.bool (.sym (bndC n c f x y by_))), .ints .i64 (.lit 49) (bndF n c f x y by_)]), vc := [Sm f] }
  | _ => none
def boundC : Con := con [zA, iA, iA, iA] boundS
def apartS : FSpec := fun ds _ => match ds with
  | [.i n, .b c, .f f] => some { val := .one (.agg [.c (.int .i64 (.sym (n))), .c (.bool (.sym (c))), .ints .i64 (.lit 49) (apF n f)]), vc := [Sm f] }
  | _ => none
def apartC : Con := con [zA] apartS
def topS : FSpec := fun ds _ => match ds with
  | [.i n] => some { val := .one (.agg [.c (.int .i64 (.sym (topN n))), .c (.bool (.sym (false))), .ints .i64 (.lit 49) (topF n)]), vc := [] }
  | _ => none
def topC : Con := con [iA] topS
def forgetS : FSpec := fun ds _ => match ds with
  | [.i n, .b c, .f f, .i x] => some { val := .one (.agg [.c (.int .i64 (.sym (n))), .c (.bool (.sym (c))), .ints .i64 (.lit 49) (forgetF n c f x)]), vc := [Sm f] }
  | _ => none
def forgetC : Con := con [zA, iA] forgetS
def shiftedS : FSpec := fun ds _ => match ds with
  | [.i n, .b c, .f f, .i i, .i by_] => some { val := .one (.agg [.c (.int .i64 (.sym (n))), .c (.bool (.sym (c))), .ints .i64 (.lit 49) (shiftF n c f i.toNat by_)]), vc := [Sm f, (0 ≤ i ∧ i < 7), (-2199023255552 ≤ by_ ∧ by_ ≤ 2199023255552)] }
  | _ => none
def shiftedC : Con := con [zA, iA, iA] shiftedS
end Go.Proofs.Ytdagadcflignfaa.Sx.Z
namespace Go.Proofs.Ytdagadcflignfaa.Sx.Z
open Go.RowKit
/-- The state at a loop's head: some slots new, others kept, blocks kept. -/
def famS (s : St) (sl : Slots) (ks : List Nat) (hs : List Nat) : St := { tm := sl ++ keepS s.tm ks, hp := keepH s.hp (hs.map (idOf s)), nx := s.nx }
/-- Of the cells ahead of one it is so. -/
def up (p : Nat → Bool) (r k m : Nat) : Prop := ∀ o, o < 49 → ((o / 7 < k ∨ o / 7 = k ∧ o % 7 < m) ∧ o % 7 < r) → p o = true
def allB (p : Nat → Bool) (r : Nat) : Bool := (List.range 49).all fun o => !(Nat.blt (o / 7) r && Nat.blt (o % 7) r) || p o
theorem allB_iff {p : Nat → Bool} {r : Nat} : allB p r = true ↔ ∀ o, o < 49 → (o / 7 < r ∧ o % 7 < r) → p o = true := by
  unfold allB
  rw [List.all_eq_true]
  constructor
  · intro h o ho hr
    have := h o (List.mem_range.2 ho)
    rw [Bool.or_eq_true, Bool.not_eq_true'] at this
    rcases this with h1 | h1
    · exfalso
      rw [Bool.and_eq_false_iff] at h1
      rcases h1 with h1 | h1
      · rw [show Nat.blt (o / 7) r = true from by rw [Nat.blt_eq]; exact hr.1] at h1; cases h1
      · rw [show Nat.blt (o % 7) r = true from by rw [Nat.blt_eq]; exact hr.2] at h1; cases h1
    · exact h1
  · intro h o ho
    have ho := List.mem_range.1 ho
    by_cases hr : o / 7 < r ∧ o % 7 < r
    · rw [h o ho hr, Bool.or_true]
    · have : (Nat.blt (o / 7) r && Nat.blt (o % 7) r) = false := by
        rw [Bool.eq_false_iff]
        intro h1
        rw [Bool.and_eq_true, Nat.blt_eq, Nat.blt_eq] at h1
        exact hr h1
      rw [this]; rfl
theorem up_zero (p : Nat → Bool) (r : Nat) : up p r 0 0 := fun o _ h => by omega
theorem up_next {p : Nat → Bool} {r k : Nat} (h : up p r k r) : up p r (k + 1) 0 := fun o ho hh => h o ho (by omega)
theorem up_step {p : Nat → Bool} {r k m : Nat} (h : up p r k m) (hm : m < 7) (hp : p (k * 7 + m) = true) : up p r k (m + 1) := fun o ho hh => by
  by_cases e : o = k * 7 + m
  · rw [e]; exact hp
  · exact h o ho (by omega)
theorem up_end {p : Nat → Bool} {r : Nat} (h : up p r r 0) : true = allB p r := (allB_iff.2 fun o ho hh => h o ho (by omega)).symm
theorem up_no {p : Nat → Bool} {r k m : Nat} (hm : m < r) (hr : r ≤ 7) (hk : k < r) (hp : p (k * 7 + m) = false) : false = allB p r := by
  cases h : allB p r with
  | false => rfl
  | true =>
    have := allB_iff.1 h (k * 7 + m) (by omega) (by omega)
    rw [hp] at this; cases this
def leP (f g : Nat → Int) (o : Nat) : Bool := decide (f o ≤ g o)
def withinP (n : Int) (c : Bool) (f : Nat → Int) (m : Int) (e : Bool) (g : Nat → Int) : Bool := if (n != m || c || e) = true then (n == m) && c else allB (leP f g) (rowsP n).toNat
def jnTo (f g : Nat → Int) (r k m : Nat) (o : Nat) : Int := if (o / 7 < k ∨ o / 7 = k ∧ o % 7 < m) ∧ o % 7 < r then max (f o) (g o) else f o
def jnC (n : Int) (c : Bool) (m : Int) (e : Bool) : Bool := if (n != m || e) = true then c else if c = true then e else c
def jnF (n : Int) (c : Bool) (f : Nat → Int) (m : Int) (e : Bool) (g : Nat → Int) (o : Nat) : Int := if (n != m || e) = true then f o else if c = true then g o else jnTo f g (rowsP n).toNat (rowsP n).toNat 0 o
def widTo (f g : Nat → Int) (k : Nat) (o : Nat) : Int := if 1 ≤ o / 7 ∧ o / 7 < k ∧ o % 7 = 0 ∧ g o > f o then 2147483647 else if 1 ≤ o ∧ o < k ∧ g o > f o then 2147483648 else f o
def widC (n : Int) (c : Bool) (f : Nat → Int) (m : Int) (e : Bool) (g : Nat → Int) : Bool := if (n != m || withinP m e g n c f) = true then c else if c = true then e else c
def widF (n : Int) (c : Bool) (f : Nat → Int) (m : Int) (e : Bool) (g : Nat → Int) (o : Nat) : Int := if (n != m || withinP m e g n c f) = true then f o else if c = true then g o else apF n (widTo f g (rowsP n).toNat) o
theorem wid_step {f g : Nat → Int} {k : Nat} (hk : 1 ≤ k ∧ k < 7) (o : Nat) : widTo f g (k + 1) o = if o = k ∧ g k > f k then 2147483648 else if o = k * 7 ∧ g (k * 7) > f (k * 7) then 2147483647 else widTo f g k o := by
  unfold widTo
  by_cases h1 : o = k
  · subst h1
    rw [if_neg (by omega)]
    by_cases h2 : g o > f o
    · rw [if_pos (by omega), if_pos ⟨rfl, h2⟩]
    · rw [if_neg (fun h => h2 h.2.2), if_neg (fun h => h2 h.2), if_neg (by omega), if_neg (by omega), if_neg (by omega)]
  · rw [if_neg (fun h : o = k ∧ g k > f k => h1 h.1)]
    by_cases h2 : o = k * 7
    · subst h2
      by_cases h3 : g (k * 7) > f (k * 7)
      · rw [if_pos (by omega), if_pos ⟨rfl, h3⟩]
      · rw [if_neg (fun h => h3 h.2.2.2), if_neg (by omega), if_neg (fun h => h3 h.2), if_neg (by omega), if_neg (by omega)]
    · rw [if_neg (fun h : o = k * 7 ∧ g (k * 7) > f (k * 7) => h2 h.1)]
      exact icg (by omega) rfl (icg (by omega) rfl rfl)
def hv (l : Nat) (g : Nat → Int) : Nat → Int := cpF 1 (Nat.min l 6) g (fun _ => 0)
def hasQ (f v : Nat → Int) (o : Nat) : Bool := decide (-2147483648 ≤ v (o / 7)) && decide (v (o / 7) ≤ 2147483647) && decide (IntKind.i64.wrap (v (o / 7) - v (o % 7)) ≤ f o)
theorem hasQ_eq {f v : Nat → Int} {k m : Nat} (hm : m < 7) : hasQ f v (k * 7 + m) = !(!(decide (-2147483648 ≤ v k) && decide (v k ≤ 2147483647)) || decide (IntKind.i64.wrap (v k - v m) > f (k * 7 + m))) := by
  unfold hasQ
  rw [(dm7 (k := k) (m := m) hm).1, (dm7 (k := k) (m := m) hm).2]
  by_cases h : IntKind.i64.wrap (v k - v m) ≤ f (k * 7 + m)
  · rw [decide_eq_true h, decide_eq_false (show ¬ IntKind.i64.wrap (v k - v m) > f (k * 7 + m) by omega)]
    simp
  · rw [decide_eq_false h, decide_eq_true (show IntKind.i64.wrap (v k - v m) > f (k * 7 + m) by omega)]
    simp
def hasP (n : Int) (c : Bool) (f : Nat → Int) (l : Nat) (g : Nat → Int) : Bool := if (c || (l : Int) != n || decide (n > 6)) = true then false else allB (hasQ f (hv l g)) (rowsP n).toNat
def bRight (n i j b : Int) : Bool := if (i == j || decide (i ≥ rowsP n) || decide (j ≥ rowsP n)) = true then b == 0 else if (j == 0 && decide (b > 2147483647) || i == 0 && decide (b > 2147483648)) = true then false else decide (b > -1099511627776) && decide (b < 1099511627776)
def bQ (n : Int) (f : Nat → Int) (o : Nat) : Bool := bRight n (o / 7 : Nat) (o % 7 : Nat) (f o)
def bsRight (n : Int) (f : Nat → Int) : Bool := allB (bQ n f) 7
theorem bs_sm {n : Int} {f : Nat → Int} (h : bsRight n f = true) : Sm f := fun o ho => by
  have := allB_iff.1 h o ho (by omega)
  unfold bQ bRight at this
  split at this
  · have := eq_of_beq this; omega
  · split at this
    · cases this
    · simp only [Bool.and_eq_true, decide_eq_true_eq] at this; omega
def tri (f : Nat → Int) (i j k : Nat) : Prop := f (i * 7 + j) ≤ f (i * 7 + k) + f (k * 7 + j)
def clUp (f : Nat → Int) (r a b c : Nat) : Prop := ∀ i j k, i < r → j < r → k < r → (i < a ∨ i = a ∧ (j < b ∨ j = b ∧ k < c)) → tri f i j k
theorem cl_zero (f : Nat → Int) (r : Nat) : clUp f r 0 0 0 := fun i j k _ _ _ h => by omega
theorem cl_step {f : Nat → Int} {r a b c : Nat} (h : clUp f r a b c) (ht : tri f a b c) : clUp f r a b (c + 1) := fun i j k hi hj hk hh => by
  by_cases e : i = a ∧ j = b ∧ k = c
  · rw [e.1, e.2.1, e.2.2]; exact ht
  · exact h i j k hi hj hk (by omega)
theorem cl_next2 {f : Nat → Int} {r a b : Nat} (h : clUp f r a b r) : clUp f r a (b + 1) 0 := fun i j k hi hj hk hh => h i j k hi hj hk (by omega)
theorem cl_next1 {f : Nat → Int} {r a : Nat} (h : clUp f r a r 0) : clUp f r (a + 1) 0 0 := fun i j k hi hj hk hh => h i j k hi hj hk (by omega)
def closedB (r : Nat) (f : Nat → Int) : Bool := decide (∀ i, i < r → ∀ j, j < r → ∀ k, k < r → f (i * 7 + j) ≤ f (i * 7 + k) + f (k * 7 + j))
theorem closedB_iff {r : Nat} {f : Nat → Int} : closedB r f = true ↔ ∀ i j k, i < r → j < r → k < r → tri f i j k := by
  unfold closedB
  rw [decide_eq_true_eq]
  exact ⟨fun h i j k hi hj hk => h i hi j hj k hk, fun h i hi j hj k hk => h i j k hi hj hk⟩
theorem cl_end {f : Nat → Int} {r : Nat} (h : clUp f r r 0 0) : true = closedB r f := (closedB_iff.2 fun i j k hi hj hk => h i j k hi hj hk (.inl hi)).symm
theorem cl_no {f : Nat → Int} {r a b c : Nat} (ha : a < r) (hb : b < r) (hc : c < r) (h : ¬ tri f a b c) : false = closedB r f := by
  cases e : closedB r f with
  | false => rfl
  | true => exact absurd (closedB_iff.1 e a b c ha hb hc) h
def rightP (n : Int) (c : Bool) (f : Nat → Int) : Bool := if (decide (n < 0) || decide (n > 6)) = true then false else if c = true then eqF 49 f (fun _ => 0) else bsRight n f && closedB (rowsP n).toNat f
def withinS : FSpec := fun ds _ => match ds with
  | [.i n, .b c, .f f, .i m, .b e, .f g] => some { val := .one (.sc (.bool (.sym (withinP n c f m e g)))), vc := [] }
  | _ => none
def withinC : Con := con [zA, zA] withinS
def joinS : FSpec := fun ds _ => match ds with
  | [.i n, .b c, .f f, .i m, .b e, .f g] => some { val := .one (.agg [.c (.int .i64 (.sym (n))), .c (.bool (.sym (jnC n c m e))), .ints .i64 (.lit 49) (jnF n c f m e g)]), vc := [] }
  | _ => none
def joinC : Con := con [zA, zA] joinS
def widenS : FSpec := fun ds _ => match ds with
  | [.i n, .b c, .f f, .i m, .b e, .f g] => some { val := .one (.agg [.c (.int .i64 (.sym (n))), .c (.bool (.sym (widC n c f m e g))), .ints .i64 (.lit 49) (widF n c f m e g)]), vc := [Sm f, Sm g] }
  | _ => none
def widenC : Con := con [zA, zA] widenS
/-- A row of numbers. -/
def ig (d : D) : Nat → Int := fun j => (d.el j 0).toI
def zhasS : FSpec := fun ds _ => match ds with
  | [.i n, .b c, .f f, .d d] => some { val := .one (.sc (.bool (.sym (hasP n c f d.len (ig d))))), vc := [] }
  | _ => none
def zhasC : Con := con [zA, .sc (.rows 3)] zhasS
def brightS : FSpec := fun ds _ => match ds with
  | [.i n, .b _, .f _, .i i, .i j, .i b] => some { val := .one (.sc (.bool (.sym (bRight n i j b)))), vc := [] }
  | _ => none
def brightC : Con := con [zA, iA, iA, iA] brightS
def bsrightS : FSpec := fun ds _ => match ds with
  | [.i n, .b c, .f f] => some { val := .one (.sc (.bool (.sym (bsRight n f)))), vc := [] }
  | _ => none
def bsrightC : Con := con [zA] bsrightS
def closedS : FSpec := fun ds _ => match ds with
  | [.i n, .b c, .f f] => some { val := .one (.sc (.bool (.sym (closedB (rowsP n).toNat f)))), vc := [Sm f] }
  | _ => none
def closedC : Con := con [zA] closedS
def zrightS : FSpec := fun ds _ => match ds with
  | [.i n, .b c, .f f] => some { val := .one (.sc (.bool (.sym (rightP n c f)))), vc := [] }
  | _ => none
def zrightC : Con := con [zA] zrightS
end Go.Proofs.Ytdagadcflignfaa.Sx.Z
namespace Go.Proofs.Ytdagadcflignfaa.Sx.Z
open Go.RowKit
abbrev Zs := Bool × (Nat → Int)
def R (n : Int) : Nat := (rowsP n).toNat
def bndZ (n x y b : Int) (z : Zs) : Zs := (bndC n z.1 z.2 x y b, bndF n z.1 z.2 x y b)
def fgZ (n x : Int) (z : Zs) : Zs := (z.1, forgetF n z.1 z.2 x)
def shZ (n : Int) (i : Nat) (b : Int) (z : Zs) : Zs := (z.1, shiftF n z.1 z.2 i b)
def cp2 (n y b : Int) (z : Zs) : Zs := bndZ n (-1) y (b + 2147483648) (bndZ n y (-1) (2147483647 - b) z)
def copyZ (n x y b : Int) (z : Zs) : Zs := if (z.1 || !isVarP n x || !isEndP n y) = true then z else if (decide (b > 1099511627776) || decide (b < -1099511627776)) = true then (true, fun _ => 0) else if (x == y) = true then shZ n (x + 1).toNat b (cp2 n y b z) else bndZ n y x (0 - b) (bndZ n x y b (fgZ n x (cp2 n y b z)))
structure Good (n : Int) (z : Zs) : Prop where
  n0 : 0 ≤ n ∧ n ≤ 6
  out : ∀ i j, i < 7 → j < 7 → (R n ≤ i ∨ R n ≤ j) → z.2 (i * 7 + j) = 0
  diag : ∀ i, i < R n → z.2 (i * 7 + i) = 0
  tri : ∀ i j k, i < R n → j < R n → k < R n → tri z.2 i j k
  hi0 : ∀ i, i < R n → z.2 (i * 7) ≤ 2147483647
  hi1 : ∀ i, i < R n → z.2 i ≤ 2147483648
  none : z.1 = true → ∀ o, o < 49 → z.2 o = 0
theorem R_le (n : Int) : 1 ≤ R n ∧ R n ≤ 7 ∧ (R n : Int) = rowsP n := by have := rowsP_le n; unfold R; omega
theorem at7 {i j : Nat} {o : Nat} (h : o < 49) (hi : i = o / 7) (hj : j = o % 7) : o = i * 7 + j ∧ i < 7 ∧ j < 7 := by omega
theorem Good.low {n : Int} {z : Zs} (h : Good n z) {i j : Nat} (hi : i < R n) (hj : j < R n) : -4294967295 ≤ z.2 (i * 7 + j) ∧ z.2 (i * 7 + j) ≤ 4294967295 := by
  have hR := R_le n
  have t1 := h.tri i j 0 hi hj (by omega)
  have t2 := h.tri j i 0 hj hi (by omega)
  have t3 := h.tri i i j hi hi hj
  have d := h.diag i hi
  have a1 := h.hi0 i hi
  have a2 := h.hi0 j hj
  have a3 := h.hi1 i hi
  have a4 := h.hi1 j hj
  unfold Z.tri at t1 t2 t3
  rw [show 0 * 7 + j = j by omega] at t1
  rw [show 0 * 7 + i = i by omega] at t2
  rw [Nat.add_zero] at t1 t2
  omega
theorem Good.sm {n : Int} {z : Zs} (h : Good n z) : Sm z.2 := fun o ho => by
  obtain ⟨e, hi, hj⟩ := at7 ho rfl rfl
  rw [e]
  by_cases hr : o / 7 < R n ∧ o % 7 < R n
  · have := h.low hr.1 hr.2; omega
  · rw [h.out _ _ hi hj (by omega)]; omega
theorem near_at {f : Nat → Int} {a b : Nat} {by' : Int} {i j : Nat} (hj : j < 7) : near f a b by' (i * 7 + j) = min (f (i * 7 + j)) (f (i * 7 + a) + by' + f (b * 7 + j)) := by
  unfold near
  rw [(dm7 (k := i) (m := j) hj).1, (dm7 (k := i) (m := j) hj).2]
theorem isEnd_R {n x : Int} (h : isEndP n x = true) : (x + 1).toNat < R n ∧ ((x + 1).toNat : Int) = x + 1 := by
  have := isEndP_lt h
  have := R_le n
  omega
/-- Bound: the same, nothing, or nearer. -/
theorem bnd_cases (n x y b : Int) (z : Zs) : (bndZ n x y b z = z ∧ (isEndP n x = true → isEndP n y = true → z.1 = false → z.2 ((x + 1).toNat * 7 + (y + 1).toNat) ≤ b)) ∨
    (z.1 = false ∧ isEndP n x = true ∧ isEndP n y = true ∧ b < z.2 ((x + 1).toNat * 7 + (y + 1).toNat) ∧
      ((b < 0 - z.2 ((y + 1).toNat * 7 + (x + 1).toNat) ∧ bndZ n x y b z = (true, fun _ => 0)) ∨
      (0 - z.2 ((y + 1).toNat * 7 + (x + 1).toNat) ≤ b ∧ bndZ n x y b z = (false, fun o => if o / 7 < R n ∧ o % 7 < R n then near z.2 (x + 1).toNat (y + 1).toNat b o else z.2 o)))) := by
  obtain ⟨c, f⟩ := z
  unfold bndZ bndC bndF
  by_cases h : (c || !isEndP n x || !isEndP n y) = true
  · left
    simp only [h, if_true]
    refine ⟨trivial, fun h1 h2 h3 => ?_⟩
    rw [h1, h2, h3] at h; cases h
  · have hc : c = false ∧ isEndP n x = true ∧ isEndP n y = true := by
      revert h; cases c <;> cases isEndP n x <;> cases isEndP n y <;> simp
    simp only [if_neg h]
    unfold bdC bdF
    by_cases h1 : b ≥ f ((x + 1).toNat * 7 + (y + 1).toNat)
    · left
      simp only [if_pos h1]
      exact ⟨trivial, fun _ _ _ => h1⟩
    · right
      refine ⟨hc.1, hc.2.1, hc.2.2, by omega, ?_⟩
      simp only [if_neg h1]
      by_cases h2 : b < 0 - f ((y + 1).toNat * 7 + (x + 1).toNat)
      · left; simp only [if_pos h2]; exact ⟨h2, trivial⟩
      · right; simp only [if_neg h2, hc.1]; exact ⟨by omega, rfl⟩
theorem good_none {n : Int} (h : 0 ≤ n ∧ n ≤ 6) (c : Bool) : Good n (c, fun _ => 0) := ⟨h, fun _ _ _ _ _ => rfl, fun _ _ => rfl, fun _ _ _ _ _ _ => by show (0 : Int) ≤ 0 + 0; omega, fun _ _ => by show (0 : Int) ≤ _; omega, fun _ _ => by show (0 : Int) ≤ _; omega, fun _ _ _ => rfl⟩
theorem near_val {n : Int} {f : Nat → Int} {a b : Nat} {q : Int} {i j : Nat} (hi : i < R n) (hj : j < R n) : (if (i * 7 + j) / 7 < R n ∧ (i * 7 + j) % 7 < R n then near f a b q (i * 7 + j) else f (i * 7 + j)) = min (f (i * 7 + j)) (f (i * 7 + a) + q + f (b * 7 + j)) := by
  have hR := R_le n
  have h7 := dm7 (k := i) (m := j) (by omega)
  rw [if_pos (by omega), near_at (by omega)]
theorem good_bnd {n : Int} {z : Zs} (h : Good n z) (x y b : Int) : Good n (bndZ n x y b z) := by
  have hR := R_le n
  rcases bnd_cases n x y b z with ⟨e, _⟩ | ⟨hc, hx, hy, hlt, ⟨_, e⟩ | ⟨hge, e⟩⟩
  · rw [e]; exact h
  · rw [e]; exact good_none h.n0 true
  · rw [e]
    obtain ⟨ha, _⟩ := isEnd_R hx
    obtain ⟨hb, _⟩ := isEnd_R hy
    generalize (x + 1).toNat = a at *
    generalize (y + 1).toNat = d at *
    obtain ⟨c, f⟩ := z
    dsimp only at hlt hge hc ⊢
    refine ⟨h.n0, fun i j hi hj ho => ?_, fun i hi => ?_, fun i j k hi hj hk => ?_, fun i hi => ?_, fun i hi => ?_, fun h => by cases h⟩
    · dsimp only
      have h7 := dm7 (k := i) (m := j) hj
      rw [if_neg (by omega)]
      exact h.out i j hi hj ho
    · dsimp only
      rw [near_val hi hi]
      have t := h.tri d a i hb ha hi
      have dg := h.diag i hi
      unfold Z.tri at t
      dsimp only at t dg
      omega
    · unfold Z.tri
      dsimp only
      rw [near_val hi hj, near_val hi hk, near_val hk hj]
      have t1 := h.tri i j k hi hj hk
      have t2 := h.tri i a k hi ha hk
      have t3 := h.tri d j k hb hj hk
      have t4 := h.tri d a k hb ha hk
      unfold Z.tri at t1 t2 t3 t4
      dsimp only at t1 t2 t3 t4
      omega
    · dsimp only
      have := near_val (n := n) (f := f) (a := a) (b := d) (q := b) hi (show 0 < R n by omega)
      rw [Nat.add_zero] at this
      rw [this]
      have := h.hi0 i hi
      dsimp only at this
      omega
    · dsimp only
      have := near_val (n := n) (f := f) (a := a) (b := d) (q := b) (show 0 < R n by omega) hi
      rw [show 0 * 7 + i = i by omega] at this
      rw [this]
      have := h.hi1 i hi
      dsimp only at this
      omega
/-- The numbers of a zone. -/
def Pt (n : Int) (z : Zs) (v : Nat → Int) : Prop := z.1 = false ∧ v 0 = 0 ∧ ∀ i j, i < R n → j < R n → v i - v j ≤ z.2 (i * 7 + j)
theorem bnd_pt {n : Int} {z : Zs} (h : Good n z) {x y b : Int} (hx : isEndP n x = true) (hy : isEndP n y = true) (v : Nat → Int) : Pt n (bndZ n x y b z) v ↔ Pt n z v ∧ v (x + 1).toNat - v (y + 1).toNat ≤ b := by
  obtain ⟨ha, _⟩ := isEnd_R hx
  obtain ⟨hb, _⟩ := isEnd_R hy
  rcases bnd_cases n x y b z with ⟨e, h1⟩ | ⟨hc, _, _, hlt, ⟨h2, e⟩ | ⟨hge, e⟩⟩
  · rw [e]
    refine ⟨fun hp => ⟨hp, ?_⟩, fun hp => hp.1⟩
    have := h1 hx hy hp.1
    have := hp.2.2 _ _ ha hb
    omega
  · rw [e]
    refine ⟨fun hp => (by cases hp.1), fun hp => ?_⟩
    have := hp.1.2.2 _ _ hb ha
    omega
  · rw [e]
    generalize (x + 1).toNat = a at *
    generalize (y + 1).toNat = d at *
    constructor
    · rintro ⟨_, h0, hp⟩
      refine ⟨⟨hc, h0, fun i j hi hj => ?_⟩, ?_⟩
      · have := hp i j hi hj
        dsimp only at this
        rw [near_val hi hj] at this
        omega
      · have := hp a d ha hb
        dsimp only at this
        rw [near_val ha hb] at this
        have d1 := h.diag a ha
        have d2 := h.diag d hb
        omega
    · rintro ⟨⟨_, h0, hp⟩, hq⟩
      refine ⟨rfl, h0, fun i j hi hj => ?_⟩
      dsimp only
      rw [near_val hi hj]
      have p1 := hp i j hi hj
      have p2 := hp i a hi ha
      have p3 := hp d j hb hj
      omega
/-- A bound is reached. -/
theorem pt_at {n : Int} {z : Zs} (h : Good n z) (hc : z.1 = false) {j : Nat} (hj : j < R n) : Pt n z (fun k => z.2 (k * 7 + j) - z.2 (0 * 7 + j)) := by
  have hR := R_le n
  refine ⟨hc, by dsimp only; omega, fun i l hi hl => ?_⟩
  have t := h.tri i j l hi hj hl
  unfold Z.tri at t
  dsimp only
  omega
theorem good_le {n : Int} {z w : Zs} (h : Good n z) (hp : ∀ v, Pt n z v → Pt n w v) (hc : z.1 = false) : w.1 = false ∧ ∀ i j, i < R n → j < R n → z.2 (i * 7 + j) ≤ w.2 (i * 7 + j) := by
  have hR := R_le n
  refine ⟨(hp _ (pt_at h hc (show 0 < R n by omega))).1, fun i j hi hj => ?_⟩
  have := (hp _ (pt_at h hc hj)).2.2 i j hi hj
  have d := h.diag j hj
  dsimp only at this
  omega
theorem good_ext {n : Int} {z w : Zs} (h : Good n z) (k : Good n w) (hp : ∀ v, Pt n z v ↔ Pt n w v) : z.1 = w.1 ∧ ∀ o, o < 49 → z.2 o = w.2 o := by
  cases hz : z.1 with
  | false =>
    obtain ⟨hw, h1⟩ := good_le h (fun v => (hp v).1) hz
    obtain ⟨_, h2⟩ := good_le k (fun v => (hp v).2) hw
    refine ⟨hw.symm, fun o ho => ?_⟩
    obtain ⟨e, hi, hj⟩ := at7 ho rfl rfl
    rw [e]
    by_cases hr : o / 7 < R n ∧ o % 7 < R n
    · exact Int.le_antisymm (h1 _ _ hr.1 hr.2) (h2 _ _ hr.1 hr.2)
    · rw [h.out _ _ hi hj (by omega), k.out _ _ hi hj (by omega)]
  | true =>
    cases hw : w.1 with
    | true => exact ⟨rfl, fun o ho => by rw [h.none hz o ho, k.none hw o ho]⟩
    | false =>
      obtain ⟨hz2, _⟩ := good_le k (fun v => (hp v).2) hw
      rw [hz] at hz2; cases hz2
theorem fg_at {f : Nat → Int} {a r i j : Nat} (hi : i < r) (hj : j < r) (hr : r ≤ 7) : fgTo f a r (i * 7 + j) = if i = a ∧ j ≠ a then 2147483647 + f j else if j = a ∧ i ≠ a then f (i * 7) + 2147483648 else f (i * 7 + j) := by
  have h7 := dm7 (k := i) (m := j) (by omega)
  unfold fgTo
  rw [h7.1, h7.2]
  exact icg (by omega) rfl (icg (by omega) rfl rfl)
theorem good_fg {n : Int} {z : Zs} (h : Good n z) (x : Int) : Good n (fgZ n x z) := by
  have hR := R_le n
  obtain ⟨c, f⟩ := z
  unfold fgZ forgetF
  by_cases hb : (c || !isVarP n x) = true
  · simp only [if_pos hb]; exact h
  · have hv := isVarP_lt (show isVarP n x = true by revert hb; cases c <;> cases isVarP n x <;> simp)
    have hc : c = false := by revert hb; cases c <;> simp
    simp only [if_neg hb]
    show Good n (c, fun o => fgTo f (x + 1).toNat (R n) o)
    have ha : (x + 1).toNat < R n ∧ 1 ≤ (x + 1).toNat := by omega
    generalize (x + 1).toNat = a at *
    refine ⟨h.n0, fun i j hi hj ho => ?_, fun i hi => ?_, fun i j k hi hj hk => ?_, fun i hi => ?_, fun i hi => ?_, fun h => by rw [hc] at h; cases h⟩
    · have h7 := dm7 (k := i) (m := j) hj
      show fgTo f a (R n) (i * 7 + j) = 0
      unfold fgTo
      rw [if_neg (by omega), if_neg (by omega)]
      exact h.out i j hi hj ho
    · show fgTo f a (R n) (i * 7 + i) = 0
      rw [fg_at hi hi hR.2.1, if_neg (by omega), if_neg (by omega)]
      exact h.diag i hi
    · show fgTo f a (R n) (i * 7 + j) ≤ fgTo f a (R n) (i * 7 + k) + fgTo f a (R n) (k * 7 + j)
      rw [fg_at hi hj hR.2.1, fg_at hi hk hR.2.1, fg_at hk hj hR.2.1]
      have t0 := h.tri i j k hi hj hk
      have t1 := h.tri 0 j k (by omega) hj hk
      have t2 := h.tri i 0 k hi (by omega) hk
      have t3 := h.tri i j 0 hi hj (by omega)
      have t4 := h.tri 0 0 k (by omega) (by omega) hk
      have dg := h.diag 0 (by omega)
      unfold Z.tri at t0 t1 t2 t3 t4
      simp only [Nat.zero_mul, Nat.zero_add, Nat.add_zero] at t0 t1 t2 t3 t4 dg
      have di := h.diag i hi
      have dj := h.diag j hj
      dsimp only at di dj
      by_cases e1 : i = a
      · by_cases e2 : j = a
        · by_cases e3 : k = a
          · rw [if_neg (by omega), if_neg (by omega), if_neg (by omega), if_neg (by omega), if_neg (by omega), if_neg (by omega)]; subst e1 e2 e3; omega
          · rw [if_neg (by omega), if_neg (by omega), if_pos (by omega), if_neg (by omega), if_pos (by omega)]; subst e1 e2; omega
        · by_cases e3 : k = a
          · rw [if_pos (by omega), if_neg (by omega), if_neg (by omega), if_pos (by omega)]; subst e1 e3; omega
          · rw [if_pos (by omega), if_pos (by omega), if_neg (by omega), if_neg (by omega)]; omega
      · by_cases e2 : j = a
        · by_cases e3 : k = a
          · rw [if_neg (by omega), if_pos (by omega), if_neg (by omega), if_pos (by omega), if_neg (by omega), if_neg (by omega)]; subst e2 e3; omega
          · rw [if_neg (by omega), if_pos (by omega), if_neg (by omega), if_neg (by omega), if_neg (by omega), if_pos (by omega)]; omega
        · by_cases e3 : k = a
          · rw [if_neg (by omega), if_neg (by omega), if_neg (by omega), if_pos (by omega), if_pos (by omega)]; omega
          · rw [if_neg (by omega), if_neg (by omega), if_neg (by omega), if_neg (by omega), if_neg (by omega), if_neg (by omega)]; omega
    · have e := fg_at (f := f) (a := a) hi (show 0 < R n by omega) hR.2.1
      rw [Nat.add_zero] at e
      show fgTo f a (R n) (i * 7) ≤ _
      rw [e]
      have := h.hi0 i hi
      have dg := h.diag 0 (by omega)
      dsimp only at this dg
      simp only [Nat.zero_mul, Nat.zero_add] at dg
      (repeat' split) <;> omega
    · have e := fg_at (f := f) (a := a) (show 0 < R n by omega) hi hR.2.1
      rw [Nat.zero_mul, Nat.zero_add] at e
      show fgTo f a (R n) i ≤ _
      rw [e]
      have := h.hi1 i hi
      have dg := h.diag 0 (by omega)
      dsimp only at this dg
      simp only [Nat.zero_mul, Nat.zero_add] at dg
      (repeat' split) <;> omega
end Go.Proofs.Ytdagadcflignfaa.Sx.Z
namespace Go.Proofs.Ytdagadcflignfaa.Sx.Z
open Go.RowKit
theorem sh_at {f : Nat → Int} {a r i j : Nat} {b : Int} (hi : i < r) (hj : j < r) (hr : r ≤ 7) : shTo f a b r (i * 7 + j) = if i = a ∧ j ≠ a then f (i * 7 + j) + b else if j = a ∧ i ≠ a then f (i * 7 + j) - b else f (i * 7 + j) := by
  have h7 := dm7 (k := i) (m := j) (by omega)
  unfold shTo
  rw [h7.1, h7.2]
  exact icg (by omega) rfl (icg (by omega) rfl rfl)
theorem good_sh {n : Int} {z : Zs} (h : Good n z) {a : Nat} (ha : a < R n) (ha1 : 1 ≤ a) {b : Int} (hb : z.1 = false → z.2 (a * 7) + b ≤ 2147483647 ∧ z.2 a - b ≤ 2147483648) : Good n (shZ n a b z) := by
  have hR := R_le n
  obtain ⟨c, f⟩ := z
  unfold shZ shiftF
  by_cases hc : c = true
  · simp only [if_pos hc]; exact h
  · have hc : c = false := by revert hc; cases c <;> simp
    subst hc
    obtain ⟨b1, b2⟩ := hb rfl
    simp only [Bool.false_eq_true, if_false]
    show Good n (false, fun o => shTo f a b (R n) o)
    dsimp only at b1 b2
    refine ⟨h.n0, fun i j hi hj ho => ?_, fun i hi => ?_, fun i j k hi hj hk => ?_, fun i hi => ?_, fun i hi => ?_, fun h => by cases h⟩
    · have h7 := dm7 (k := i) (m := j) hj
      show shTo f a b (R n) (i * 7 + j) = 0
      unfold shTo
      rw [if_neg (by omega), if_neg (by omega)]
      exact h.out i j hi hj ho
    · show shTo f a b (R n) (i * 7 + i) = 0
      rw [sh_at hi hi hR.2.1, if_neg (by omega), if_neg (by omega)]
      exact h.diag i hi
    · show shTo f a b (R n) (i * 7 + j) ≤ shTo f a b (R n) (i * 7 + k) + shTo f a b (R n) (k * 7 + j)
      rw [sh_at hi hj hR.2.1, sh_at hi hk hR.2.1, sh_at hk hj hR.2.1]
      have t0 := h.tri i j k hi hj hk
      unfold Z.tri at t0
      dsimp only at t0
      (repeat' split) <;> omega
    · have e := sh_at (f := f) (a := a) (b := b) hi (show 0 < R n by omega) hR.2.1
      rw [Nat.add_zero] at e
      show shTo f a b (R n) (i * 7) ≤ _
      rw [e]
      have := h.hi0 i hi
      dsimp only at this
      split
      · rename_i h1; rw [h1.1]; omega
      · rw [if_neg (by omega)]; exact this
    · have e := sh_at (f := f) (a := a) (b := b) (show 0 < R n by omega) hi hR.2.1
      rw [Nat.zero_mul, Nat.zero_add] at e
      show shTo f a b (R n) i ≤ _
      rw [e]
      have := h.hi1 i hi
      dsimp only at this
      rw [if_neg (by omega)]
      split
      · rename_i h1; rw [h1.1]; omega
      · exact this
theorem bnd_le {n : Int} {z : Zs} (h : Good n z) {x y b : Int} (hx : isEndP n x = true) (hy : isEndP n y = true) (hc : (bndZ n x y b z).1 = false) : (bndZ n x y b z).2 ((x + 1).toNat * 7 + (y + 1).toNat) ≤ b := by
  have g := good_bnd h x y b
  obtain ⟨hb, _⟩ := isEnd_R hy
  have := ((bnd_pt h hx hy _).1 (pt_at g hc hb)).2
  have d := g.diag _ hb
  omega
theorem bnd_mono {n : Int} {z : Zs} (h : Good n z) {x y b : Int} (hx : isEndP n x = true) (hy : isEndP n y = true) (hc : (bndZ n x y b z).1 = false) {i j : Nat} (hi : i < R n) (hj : j < R n) : (bndZ n x y b z).2 (i * 7 + j) ≤ z.2 (i * 7 + j) :=
  (good_le (good_bnd h x y b) (fun v hv => ((bnd_pt h hx hy v).1 hv).1) hc).2 i j hi hj
theorem bnd_some {n : Int} {z : Zs} {x y b : Int} (hc : (bndZ n x y b z).1 = false) : z.1 = false := by
  rcases bnd_cases n x y b z with ⟨e, _⟩ | ⟨h, _⟩
  · rw [e] at hc; exact hc
  · exact h
theorem isEnd_nought (n : Int) : isEndP n (-1) = true := rfl
theorem isVar_end {n x : Int} (h : isVarP n x = true) : isEndP n x = true := by unfold isEndP; rw [h, Bool.or_true]
theorem cp2_good {n : Int} {z : Zs} (h : Good n z) (y b : Int) : Good n (cp2 n y b z) := good_bnd (good_bnd h _ _ _) _ _ _
theorem cp2_le {n : Int} {z : Zs} (h : Good n z) {y b : Int} (hy : isEndP n y = true) (hc : (cp2 n y b z).1 = false) : (cp2 n y b z).2 ((y + 1).toNat * 7) + b ≤ 2147483647 ∧ (cp2 n y b z).2 (y + 1).toNat - b ≤ 2147483648 := by
  unfold cp2 at hc ⊢
  have g1 := good_bnd h y (-1) (2147483647 - b)
  have c1 := bnd_some hc
  have l1 := bnd_le h hy (isEnd_nought n) c1
  have l2 := bnd_le g1 (isEnd_nought n) hy hc
  obtain ⟨ha, _⟩ := isEnd_R hy
  have m := bnd_mono g1 (isEnd_nought n) hy hc ha (show 0 < R n by have := R_le n; omega)
  rw [show ((-1 : Int) + 1).toNat = 0 from rfl] at l1 l2
  rw [Nat.add_zero] at l1 m
  rw [Nat.zero_mul, Nat.zero_add] at l2
  omega
theorem good_copy {n : Int} {z : Zs} (h : Good n z) (x y b : Int) : Good n (copyZ n x y b z) := by
  unfold copyZ
  by_cases h1 : (z.1 || !isVarP n x || !isEndP n y) = true
  · rw [if_pos h1]; exact h
  · rw [if_neg h1]
    have hx : isVarP n x = true := by revert h1; cases z.1 <;> cases isVarP n x <;> simp
    by_cases h2 : (decide (b > 1099511627776) || decide (b < -1099511627776)) = true
    · rw [if_pos h2]; exact good_none h.n0 true
    · rw [if_neg h2]
      have g := cp2_good h y b
      by_cases h3 : (x == y) = true
      · rw [if_pos h3]
        obtain rfl : x = y := by simpa using h3
        have hv := isVarP_lt hx
        have hR := R_le n
        exact good_sh g (by omega) (by omega) (cp2_le h (isVar_end hx))
      · rw [if_neg h3]
        exact good_bnd (good_bnd (good_fg g x) _ _ _) _ _ _
theorem rows_n {n : Int} (h : 0 ≤ n ∧ n ≤ 6) : rowsP n = n + 1 := by unfold rowsP; omega
theorem topN_le (n : Int) : 0 ≤ topN n ∧ topN n ≤ 6 := by unfold topN; omega
theorem top_at {n : Int} {i j : Nat} (hi : i < R (topN n)) (hj : j < R (topN n)) : topF n (i * 7 + j) = if i = j then 0 else if j = 0 then 2147483647 else if i = 0 then 2147483648 else 4294967295 := by
  have hR := R_le (topN n)
  have hr : (topN n + 1).toNat = R (topN n) := by have := rows_n (topN_le n); unfold R; rw [this]
  have h7 := dm7 (k := i) (m := j) (by omega)
  unfold topF apF
  rw [hr]
  show apTo (topTo (R (topN n))) (R (topN n)) (R (topN n)) 0 (i * 7 + j) = _
  unfold apTo
  rw [h7.1, h7.2]
  by_cases h1 : i = j
  · rw [if_pos h1, if_neg (by omega)]
    unfold topTo
    rw [if_neg (by omega), if_neg (by omega)]
  · rw [if_neg h1]
    by_cases h2 : j = 0
    · rw [if_pos h2, if_neg (by omega)]
      unfold topTo
      rw [if_pos (by omega)]
    · rw [if_neg h2]
      by_cases h3 : i = 0
      · rw [if_pos h3, if_neg (by omega)]
        unfold topTo
        rw [if_neg (by omega), if_pos (by omega)]
      · rw [if_neg h3, if_pos (by omega)]
        unfold topTo
        rw [if_pos (by omega), if_neg (by omega), if_pos (by omega)]
        rfl
theorem good_top (n : Int) : Good (topN n) (false, topF n) := by
  have hR := R_le (topN n)
  have h0 := topN_le n
  have hr : (topN n + 1).toNat = R (topN n) := by have := rows_n (topN_le n); unfold R; rw [this]
  refine ⟨h0, fun i j hi hj ho => ?_, fun i hi => ?_, fun i j k hi hj hk => ?_, fun i hi => ?_, fun i hi => ?_, fun h => by cases h⟩
  · have h7 := dm7 (k := i) (m := j) hj
    show topF n (i * 7 + j) = 0
    unfold topF apF
    rw [hr]
    show apTo (topTo (R (topN n))) (R (topN n)) (R (topN n)) 0 (i * 7 + j) = _
    unfold apTo
    rw [h7.1, h7.2, if_neg (by omega)]
    unfold topTo
    rw [if_neg (by omega), if_neg (by omega)]
  · show topF n (i * 7 + i) = 0
    rw [top_at hi hi, if_pos rfl]
  · show topF n (i * 7 + j) ≤ topF n (i * 7 + k) + topF n (k * 7 + j)
    rw [top_at hi hj, top_at hi hk, top_at hk hj]
    (repeat' split) <;> omega
  · have e := top_at hi (show 0 < R (topN n) by omega)
    rw [Nat.add_zero] at e
    show topF n (i * 7) ≤ _
    rw [e]
    (repeat' split) <;> omega
  · have e := top_at (show 0 < R (topN n) by omega) hi
    rw [Nat.zero_mul, Nat.zero_add] at e
    show topF n i ≤ _
    rw [e]
    (repeat' split) <;> omega
theorem good_right {n : Int} {z : Zs} (h : Good n z) : rightP n z.1 z.2 = true := by
  have hR := R_le n
  have h0 := h.n0
  obtain ⟨c, f⟩ := z
  unfold rightP
  rw [if_neg (by simp only [Bool.or_eq_true, decide_eq_true_eq]; omega)]
  by_cases hc : c = true
  · rw [if_pos hc]
    exact decide_eq_true (h.none hc)
  · rw [if_neg hc, Bool.and_eq_true]
    refine ⟨allB_iff.2 fun o ho _ => ?_, closedB_iff.2 h.tri⟩
    obtain ⟨e, hi, hj⟩ := at7 ho rfl rfl
    unfold bQ bRight
    have hr := hR.2.2
    by_cases h1 : o / 7 = o % 7 ∨ R n ≤ o / 7 ∨ R n ≤ o % 7
    · rw [if_pos (by simp only [Bool.or_eq_true, decide_eq_true_eq, beq_iff_eq]; omega)]
      have : f o = 0 := by
        rw [e]
        by_cases h2 : R n ≤ o / 7 ∨ R n ≤ o % 7
        · exact h.out _ _ hi hj h2
        · have h3 : o / 7 = o % 7 := by omega
          rw [h3]
          exact h.diag _ (by omega)
      exact beq_iff_eq.2 this
    · rw [if_neg (by simp only [Bool.or_eq_true, decide_eq_true_eq, beq_iff_eq]; omega)]
      have hl := h.low (i := o / 7) (j := o % 7) (by omega) (by omega)
      rw [← e] at hl
      dsimp only at hl
      have g0 := h.hi0 (o / 7) (by omega)
      have g1 := h.hi1 (o % 7) (by omega)
      dsimp only at g0 g1
      rw [if_neg]
      · simp only [Bool.and_eq_true, decide_eq_true_eq]; omega
      · simp only [Bool.or_eq_true, Bool.and_eq_true, decide_eq_true_eq, beq_iff_eq]
        rintro (⟨h2, h3⟩ | ⟨h2, h3⟩)
        · rw [show o / 7 * 7 = o by omega] at g0; omega
        · rw [show o % 7 = o by omega] at g1; omega
def copyS : FSpec := fun ds _ => match ds with
  | [.i n, .b c, .f f, .i x, .i y, .i b] => some { val := .one (.agg [.c (.int .i64 (.sym (n))), .c (.bool (.sym ((copyZ n x y b (c, f)).1))), .ints .i64 (.lit 49) ((copyZ n x y b (c, f)).2)]), vc := [Good n (c, f)] }
  | _ => none
def copyC : Con := con [zA, iA, iA, iA] copyS
end Go.Proofs.Ytdagadcflignfaa.Sx.Z
namespace Go.Proofs.Ytdagadcflignfaa.Sx.Z
open Go.RowKit
theorem pt_range {n : Int} {z : Zs} (h : Good n z) {v : Nat → Int} (p : Pt n z v) {i : Nat} (hi : i < R n) : -2147483648 ≤ v i ∧ v i ≤ 2147483647 := by
  obtain ⟨_, h0, hp⟩ := p
  have hR := R_le n
  have h1 := hp i 0 hi (by omega)
  have h2 := hp 0 i (by omega) hi
  have h3 := h.hi0 i hi
  have h4 := h.hi1 i hi
  simp only [Nat.add_zero, Nat.zero_mul, Nat.zero_add] at h1 h2
  omega
def upd (v : Nat → Int) (a : Nat) (b : Int) : Nat → Int := fun q => if q = a then b else v q
theorem upd_at (v : Nat → Int) (a : Nat) (b : Int) : upd v a b a = b := by simp [upd]
theorem upd_ne {v : Nat → Int} {a q : Nat} {b : Int} (h : q ≠ a) : upd v a b q = v q := by simp [upd, h]
theorem isVar_R {n x : Int} (h : isVarP n x = true) : (x + 1).toNat < R n ∧ ((x + 1).toNat : Int) = x + 1 ∧ 1 ≤ (x + 1).toNat := by
  have h1 := isVarP_lt h
  have h2 := isEnd_R (isVar_end h)
  exact ⟨h2.1, h2.2, by omega⟩
theorem pt_fg {n : Int} {z : Zs} (h : Good n z) {x : Int} (hx : isVarP n x = true) {v : Nat → Int} (p : Pt n z v) {b : Int} (hb : -2147483648 ≤ b ∧ b ≤ 2147483647) : Pt n (fgZ n x z) (upd v (x + 1).toNat b) := by
  have hR := R_le n
  obtain ⟨ha, _, ha1⟩ := isVar_R hx
  have hr := fun {i : Nat} (hi : i < R n) => pt_range h p hi
  obtain ⟨hc, h0, hp⟩ := p
  refine ⟨hc, by rw [upd_ne (by omega)]; exact h0, fun i j hi hj => ?_⟩
  have e : (fgZ n x z).2 (i * 7 + j) = fgTo z.2 (x + 1).toNat (R n) (i * 7 + j) := by
    show forgetF n z.1 z.2 x _ = _
    unfold forgetF
    rw [if_neg (by rw [hc, hx]; simp)]; rfl
  rw [e, fg_at hi hj hR.2.1]
  by_cases h1 : i = (x + 1).toNat
  · by_cases h2 : j = (x + 1).toNat
    · rw [if_neg (by omega), if_neg (by omega), h1, h2]
      have := h.diag (x + 1).toNat ha
      omega
    · rw [if_pos ⟨h1, h2⟩, h1, upd_at, upd_ne h2]
      have := hp 0 j (by omega) hj
      simp only [Nat.zero_mul, Nat.zero_add] at this
      omega
  · by_cases h2 : j = (x + 1).toNat
    · rw [if_neg (by omega), if_pos ⟨h2, h1⟩, h2, upd_at, upd_ne h1]
      have := hp i 0 hi (by omega)
      simp only [Nat.add_zero] at this
      omega
    · rw [if_neg (by omega), if_neg (by omega), upd_ne h1, upd_ne h2]
      exact hp i j hi hj
theorem pt_sh {n : Int} {z : Zs} (h : Good n z) {a : Nat} (ha : a < R n) (ha1 : 1 ≤ a) {v : Nat → Int} (p : Pt n z v) (b : Int) : Pt n (shZ n a b z) (upd v a (v a + b)) := by
  have hR := R_le n
  obtain ⟨hc, h0, hp⟩ := p
  refine ⟨hc, by rw [upd_ne (by omega)]; exact h0, fun i j hi hj => ?_⟩
  have e : (shZ n a b z).2 (i * 7 + j) = shTo z.2 a b (R n) (i * 7 + j) := by
    show shiftF n z.1 z.2 a b _ = _
    unfold shiftF
    rw [if_neg (by rw [hc]; simp)]; rfl
  rw [e, sh_at hi hj hR.2.1]
  have hpij := hp i j hi hj
  by_cases h1 : i = a
  · by_cases h2 : j = a
    · rw [if_neg (by omega), if_neg (by omega), h1, h2]
      have := h.diag a ha
      omega
    · rw [if_pos ⟨h1, h2⟩, h1, upd_at, upd_ne h2]
      subst h1; omega
  · by_cases h2 : j = a
    · rw [if_neg (by omega), if_pos ⟨h2, h1⟩, h2, upd_at, upd_ne h1]
      subst h2; omega
    · rw [if_neg (by omega), if_neg (by omega), upd_ne h1, upd_ne h2]
      exact hpij
theorem pt_bnd {n : Int} {z : Zs} (h : Good n z) {x y b : Int} (hx : isEndP n x = true) (hy : isEndP n y = true) {v : Nat → Int} (p : Pt n z v) (hb : v (x + 1).toNat - v (y + 1).toNat ≤ b) : Pt n (bndZ n x y b z) v := (bnd_pt h hx hy v).2 ⟨p, hb⟩
theorem pt_cp2 {n : Int} {z : Zs} (h : Good n z) {y b : Int} (hy : isEndP n y = true) {v : Nat → Int} (p : Pt n z v) (hb : -2147483648 ≤ v (y + 1).toNat + b ∧ v (y + 1).toNat + b ≤ 2147483647) : Pt n (cp2 n y b z) v := by
  have h0 := p.2.1
  have e0 : ((-1 : Int) + 1).toNat = 0 := rfl
  refine pt_bnd (good_bnd h _ _ _) (isEnd_nought n) hy (pt_bnd h hy (isEnd_nought n) p ?_) ?_ <;> rw [e0, h0] <;> omega
theorem pt_copy {n : Int} {z : Zs} (h : Good n z) {x y b : Int} (hx : isVarP n x = true) (hy : isEndP n y = true) (hf : -1099511627776 ≤ b ∧ b ≤ 1099511627776) {v : Nat → Int} (p : Pt n z v) (hb : -2147483648 ≤ v (y + 1).toNat + b ∧ v (y + 1).toNat + b ≤ 2147483647) :
    Pt n (copyZ n x y b z) (upd v (x + 1).toNat (v (y + 1).toNat + b)) := by
  unfold copyZ
  rw [if_neg (by rw [p.1, hx, hy]; simp), if_neg (by
    have h1 : decide (b > 1099511627776) = false := decide_eq_false (by omega)
    have h2 : decide (b < -1099511627776) = false := decide_eq_false (by omega)
    rw [h1, h2]; simp)]
  have p2 := pt_cp2 h hy p hb
  have g2 := cp2_good h y b
  obtain ⟨ha, hac, ha1⟩ := isVar_R hx
  by_cases hxy : x = y
  · subst hxy
    rw [if_pos (by simp)]
    exact pt_sh g2 ha ha1 p2 b
  · rw [if_neg (by simpa using hxy)]
    have hyc := isEnd_R hy
    have hne : (y + 1).toNat ≠ (x + 1).toNat := fun e => hxy (by omega)
    have g3 := good_fg g2 x
    have p3 := pt_fg g2 hx p2 hb
    have p4 := pt_bnd g3 (isVar_end hx) hy p3 (b := b) (by rw [upd_at, upd_ne hne]; omega)
    exact pt_bnd (good_bnd g3 x y b) hy (isVar_end hx) p4 (b := 0 - b) (by rw [upd_at, upd_ne hne]; omega)
theorem pt_top {n : Int} {v : Nat → Int} (h0 : v 0 = 0) (hv : ∀ i, i < R (topN n) → -2147483648 ≤ v i ∧ v i ≤ 2147483647) : Pt (topN n) (false, topF n) v := by
  refine ⟨rfl, h0, fun i j hi hj => ?_⟩
  show _ ≤ topF n (i * 7 + j)
  rw [top_at hi hj]
  have h1 := hv i hi
  have h2 := hv j hj
  split
  · rename_i e; rw [e]; omega
  · split
    · rename_i e; rw [e, h0]; omega
    · split
      · rename_i e; rw [e, h0]; omega
      · omega
/-- Numbers of variables, with nought ahead. -/
def vz (g : Nat → Int) : Nat → Int := fun q => if q = 0 then 0 else g (q - 1)
theorem vz_upd (g : Nat → Int) {a : Nat} (ha : 1 ≤ a) (b : Int) : upd (vz g) a b = vz (upd g (a - 1) b) := by
  funext q
  show (if q = a then b else (if q = 0 then 0 else g (q - 1))) = if q = 0 then 0 else (if q - 1 = a - 1 then b else g (q - 1))
  by_cases h1 : q = a
  · rw [if_pos h1, if_neg (by omega), if_pos (by omega)]
  · rw [if_neg h1]
    by_cases h2 : q = 0
    · rw [if_pos h2, if_pos h2]
    · rw [if_neg h2, if_neg h2, if_neg (by omega)]
theorem has_pt {n : Int} {z : Zs} (h : Good n z) {l : Nat} (hl : (l : Int) = n) {g : Nat → Int} (p : Pt n z (vz g)) : hasP n z.1 z.2 l g = true := by
  have hR := R_le n
  have hrn := rows_n h.n0
  unfold hasP
  rw [if_neg (by
    have h1 : ((l : Int) != n) = false := by simp [hl]
    have h2 : decide (n > 6) = false := decide_eq_false (by have := h.n0; omega)
    rw [p.1, h1, h2]; simp)]
  refine allB_iff.2 fun o ho hr => ?_
  have hR' : (rowsP n).toNat = R n := rfl
  rw [hR'] at hr
  have hv : ∀ q, q < R n → hv l g q = vz g q := fun q hq => by
    unfold hv cpF vz
    have hm : Nat.min l 6 = l := Nat.min_eq_left (by have := h.n0; omega)
    rw [hm]
    by_cases h0 : q = 0
    · rw [if_pos h0, if_neg (by simp only [Bool.and_eq_true, Nat.ble_eq, Nat.blt_eq]; omega)]
    · rw [if_neg h0, if_pos (by simp only [Bool.and_eq_true, Nat.ble_eq, Nat.blt_eq]; omega)]
  unfold hasQ
  rw [hv _ hr.1, hv _ hr.2]
  have r1 := pt_range h p hr.1
  have r2 := pt_range h p hr.2
  have hp := p.2.2 _ _ hr.1 hr.2
  have eo : o / 7 * 7 + o % 7 = o := by omega
  rw [eo] at hp
  rw [wr _ (by omega)]
  simp only [Bool.and_eq_true, decide_eq_true_eq]
  exact ⟨⟨r1.1, r1.2⟩, hp⟩
theorem has_len {n : Int} {c : Bool} {f g : Nat → Int} {l : Nat} (h : (l : Int) ≠ n) : hasP n c f l g = false := by
  unfold hasP
  rw [if_pos]
  have : ((l : Int) != n) = true := by simpa using h
  rw [this]; simp
theorem has_congr {n : Int} {c : Bool} {f g g' : Nat → Int} {l : Nat} (h : ∀ q, q < l → g q = g' q) : hasP n c f l g = hasP n c f l g' := by
  have : hv l g = hv l g' := by
    funext q
    unfold hv cpF
    split
    · rename_i hq
      simp only [Bool.and_eq_true, Nat.ble_eq, Nat.blt_eq] at hq
      have := show Nat.min l 6 ≤ l from Nat.min_le_left l 6
      exact h _ (by omega)
    · rfl
  unfold hasP
  rw [this]
/-! ### Rows of numbers -/
def rowI (n : Nat) (f : Nat → Int) : D := .l ((List.range n).map fun j => [.i (f j)])
theorem rowI_len (n : Nat) (f : Nat → Int) : (rowI n f).len = n := by
  show ((List.range n).map _).length = n
  simp
theorem rowI_el {n i : Nat} (h : i < n) (f : Nat → Int) : ((rowI n f).el i 0).toI = f i := by
  show (((((List.range n).map fun j => [D.i (f j)])).getD i []).getD 0 (.i 0)).toI = f i
  rw [List.getD_eq_getElem?_getD (l := List.map _ _), List.getElem?_map, List.getElem?_range h]
  rfl
theorem rowI_app (n : Nat) (f : Nat → Int) : ((rowI n f).app (.l [[.i (f n)]])).rows = (rowI (n + 1) f).rows := by
  show (List.range n).map _ ++ [[D.i (f n)]] = (List.range (n + 1)).map _
  rw [List.range_succ, List.map_append]; rfl
theorem rowI_set {n x : Nat} (_h : x < n) (f : Nat → Int) (b : Int) : ((rowI n f).setc 1 x 0 [.i b]).rows = (rowI n (upd f x b)).rows := by
  show ((List.range n).map fun j => [D.i (f j)]).set x [D.i b] = (List.range n).map fun j => [D.i (upd f x b j)]
  apply List.ext_getElem?
  intro q
  rw [List.getElem?_set, List.getElem?_map, List.getElem?_map]
  by_cases hq : q < n
  · rw [List.getElem?_range hq]
    by_cases h1 : x = q
    · rw [if_pos h1, if_pos (by simpa using by omega)]; subst h1; simp [upd]
    · rw [if_neg h1]; simp [upd, Ne.symm h1]
  · rw [List.getElem?_eq_none (by simpa using hq)]
    by_cases h1 : x = q
    · subst h1; rw [if_pos rfl, if_neg (by simpa using hq)]; rfl
    · rw [if_neg h1]; rfl
theorem sub_all (d : D) {n : Nat} (h : n = d.len) : (d.sub 0 (0 + n)).rows = d.rows := by
  show (d.rows.take (0 + n)).drop 0 = d.rows
  rw [h, Nat.zero_add, List.drop_zero]
  exact List.take_length
theorem ig_rows {d d' : D} (h : d.rows = d'.rows) : ig d = ig d' := by
  funext j
  unfold ig D.el
  rw [h]
theorem len_rows {d d' : D} (h : d.rows = d'.rows) : d.len = d'.len := by unfold D.len; rw [h]
theorem ig_rowI (n : Nat) (f : Nat → Int) {q : Nat} (h : q < n) : ig (rowI n f) q = f q := rowI_el h f
end Go.Proofs.Ytdagadcflignfaa.Sx.Z
namespace Go.Proofs.Ytdagadcflignfaa.Sx.Z
open Go.RowKit
def clampTo (f : Nat → Int) (k : Nat) (o : Nat) : Int := if 1 ≤ o ∧ o < k then min (f o) 2147483648 else if 1 ≤ o / 7 ∧ o / 7 < k ∧ o % 7 = 0 then min (f o) 2147483647 else f o
def relax (f : Nat → Int) (i j k : Nat) (o : Nat) : Int := if o = i * 7 + j then max (min (f o) (f (i * 7 + k) + f (k * 7 + j))) (-35184372088832) else f o
def kUp (f : Nat → Int) (i j : Nat) : Nat → Nat → Int
  | 0 => f
  | k + 1 => relax (kUp f i j k) i j k
def jUp (f : Nat → Int) (i r : Nat) : Nat → Nat → Int
  | 0 => f
  | j + 1 => kUp (jUp f i r j) i j r
def iUp (f : Nat → Int) (r : Nat) : Nat → Nat → Int
  | 0 => f
  | i + 1 => jUp (iUp f r i) i r r
def rUp (f : Nat → Int) (r : Nat) : Nat → Nat → Int
  | 0 => f
  | n + 1 => iUp (rUp f r n) r r
def Bd (f : Nat → Int) : Prop := ∀ o, o < 49 → -35184372088832 ≤ f o ∧ f o ≤ 2199023255552
theorem bd_relax {f : Nat → Int} (h : Bd f) (i j k : Nat) : Bd (relax f i j k) := fun o ho => by
  unfold relax
  have := h o ho
  split <;> omega
theorem bd_kUp {f : Nat → Int} (h : Bd f) (i j : Nat) : ∀ k, Bd (kUp f i j k)
  | 0 => h
  | k + 1 => bd_relax (bd_kUp h i j k) i j k
theorem bd_jUp {f : Nat → Int} (h : Bd f) (i r : Nat) : ∀ j, Bd (jUp f i r j)
  | 0 => h
  | j + 1 => bd_kUp (bd_jUp h i r j) i j r
theorem bd_iUp {f : Nat → Int} (h : Bd f) (r : Nat) : ∀ i, Bd (iUp f r i)
  | 0 => h
  | i + 1 => bd_jUp (bd_iUp h r i) i r r
theorem bd_rUp {f : Nat → Int} (h : Bd f) (r : Nat) : ∀ n, Bd (rUp f r n)
  | 0 => h
  | n + 1 => bd_iUp (bd_rUp h r n) r r
theorem bd_clamp {f : Nat → Int} (h : Bd f) (k : Nat) : Bd (clampTo f k) := fun o ho => by
  unfold clampTo
  have := h o ho
  (repeat' split) <;> omega
def negD (f : Nat → Int) (r : Nat) : Bool := (List.range r).any fun i => decide (f (i * 8) < 0)
theorem negD_iff {f : Nat → Int} {r : Nat} : negD f r = true ↔ ∃ i, i < r ∧ f (i * 8) < 0 := by
  unfold negD
  rw [List.any_eq_true]
  constructor
  · rintro ⟨i, hi, h⟩; exact ⟨i, List.mem_range.1 hi, of_decide_eq_true h⟩
  · rintro ⟨i, hi, h⟩; exact ⟨i, List.mem_range.2 hi, decide_eq_true h⟩
def clF (n : Int) (f : Nat → Int) : Nat → Int := rUp (clampTo f (R n)) (R n) (R n + 1)
def clZ (n : Int) (z : Zs) : Zs := if z.1 = true then (true, fun _ => 0) else if negD (clF n z.2) (R n) = true then (true, fun _ => 0) else (false, clF n z.2)
theorem R_n {n : Int} (h : 0 ≤ n ∧ n ≤ 6) : (R n : Int) = n + 1 := by have := R_le n; rw [rows_n h] at this; exact this.2.2
def rcloseS : FSpec := fun ds _ => match ds with
  | [.i n, .b c, .f f] => some { val := .one (.agg [.c (.int .i64 (.sym (n))), .c (.bool (.sym ((clZ n (c, f)).1))), .ints .i64 (.lit 49) ((clZ n (c, f)).2)]), vc := [0 ≤ n ∧ n ≤ 6, Bd f] }
  | _ => none
def rcloseC : Con := con [zA] rcloseS
end Go.Proofs.Ytdagadcflignfaa.Sx.Z
namespace Go.Proofs.Ytdagadcflignfaa.Sx.Z
open Go.RowKit
def Le (f g : Nat → Int) : Prop := ∀ o, o < 49 → f o ≤ g o
theorem le_refl' (f : Nat → Int) : Le f f := fun _ _ => Int.le_refl _
theorem le_tr {f g h : Nat → Int} (a : Le f g) (b : Le g h) : Le f h := fun o ho => Int.le_trans (a o ho) (b o ho)
theorem relax_le {f : Nat → Int} (h : Bd f) (i j k : Nat) : Le (relax f i j k) f := fun o ho => by
  have := h o ho
  unfold relax
  split
  · omega
  · exact Int.le_refl _
theorem kUp_le {f : Nat → Int} (h : Bd f) (i j : Nat) : ∀ k m, Le (kUp f i j (k + m)) (kUp f i j k)
  | k, 0 => le_refl' _
  | k, m + 1 => le_tr (relax_le (bd_kUp h i j (k + m)) i j (k + m)) (kUp_le h i j k m)
theorem jUp_le {f : Nat → Int} (h : Bd f) (i r : Nat) : ∀ k m, Le (jUp f i r (k + m)) (jUp f i r k)
  | k, 0 => le_refl' _
  | k, m + 1 => le_tr (by have := kUp_le (bd_jUp h i r (k + m)) i (k + m) 0 r; rwa [Nat.zero_add] at this) (jUp_le h i r k m)
theorem iUp_le {f : Nat → Int} (h : Bd f) (r : Nat) : ∀ k m, Le (iUp f r (k + m)) (iUp f r k)
  | k, 0 => le_refl' _
  | k, m + 1 => le_tr (by have := jUp_le (bd_iUp h r (k + m)) (k + m) r 0 r; rwa [Nat.zero_add] at this) (iUp_le h r k m)
theorem rUp_le {f : Nat → Int} (h : Bd f) (r : Nat) : ∀ k m, Le (rUp f r (k + m)) (rUp f r k)
  | k, 0 => le_refl' _
  | k, m + 1 => le_tr (by have := iUp_le (bd_rUp h r (k + m)) r 0 r; rwa [Nat.zero_add] at this) (rUp_le h r k m)
theorem rUp_le' {f : Nat → Int} (h : Bd f) (r : Nat) {a b : Nat} (hab : a ≤ b) : Le (rUp f r b) (rUp f r a) := by
  have := rUp_le h r a (b - a)
  rwa [show a + (b - a) = b by omega] at this
/-- One round goes over whatever is between. -/
theorem iUp_path {f : Nat → Int} (h : Bd f) {r i j k : Nat} (hr : r ≤ 7) (hi : i < r) (hj : j < r) (hk : k < r) : iUp f r r (i * 7 + j) ≤ max (f (i * 7 + k) + f (k * 7 + j)) (-35184372088832) := by
  have b1 := bd_iUp h r i
  have b2 := bd_jUp b1 i r j
  have b3 := bd_kUp b2 i j k
  have l1 : Le (iUp f r r) (iUp f r (i + 1)) := by have := iUp_le h r (i + 1) (r - (i + 1)); rwa [show i + 1 + (r - (i + 1)) = r by omega] at this
  have l2 : Le (jUp (iUp f r i) i r r) (jUp (iUp f r i) i r (j + 1)) := by have := jUp_le b1 i r (j + 1) (r - (j + 1)); rwa [show j + 1 + (r - (j + 1)) = r by omega] at this
  have l3 : Le (kUp (jUp (iUp f r i) i r j) i j r) (kUp (jUp (iUp f r i) i r j) i j (k + 1)) := by have := kUp_le b2 i j (k + 1) (r - (k + 1)); rwa [show k + 1 + (r - (k + 1)) = r by omega] at this
  have g1 : Le (iUp f r i) f := by have := iUp_le h r 0 i; rwa [Nat.zero_add] at this
  have g2 : Le (jUp (iUp f r i) i r j) (iUp f r i) := by have := jUp_le b1 i r 0 j; rwa [Nat.zero_add] at this
  have g3 : Le (kUp (jUp (iUp f r i) i r j) i j k) (jUp (iUp f r i) i r j) := by have := kUp_le b2 i j 0 k; rwa [Nat.zero_add] at this
  have g := le_tr g3 (le_tr g2 g1)
  have a1 := g (i * 7 + k) (by omega)
  have a2 := g (k * 7 + j) (by omega)
  have c1 := l1 (i * 7 + j) (by omega)
  have c2 := l2 (i * 7 + j) (by omega)
  have c3 := l3 (i * 7 + j) (by omega)
  have e : kUp (jUp (iUp f r i) i r j) i j (k + 1) (i * 7 + j) = max (min (kUp (jUp (iUp f r i) i r j) i j k (i * 7 + j)) (kUp (jUp (iUp f r i) i r j) i j k (i * 7 + k) + kUp (jUp (iUp f r i) i r j) i j k (k * 7 + j))) (-35184372088832) := if_pos rfl
  rw [e] at c3
  have d1 : iUp f r (i + 1) (i * 7 + j) = jUp (iUp f r i) i r r (i * 7 + j) := rfl
  have d2 : jUp (iUp f r i) i r (j + 1) (i * 7 + j) = kUp (jUp (iUp f r i) i r j) i j r (i * 7 + j) := rfl
  omega
theorem rUp_path {f : Nat → Int} (h : Bd f) {r m i j k : Nat} (hr : r ≤ 7) (hi : i < r) (hj : j < r) (hk : k < r) : rUp f r (m + 1) (i * 7 + j) ≤ max (rUp f r m (i * 7 + k) + rUp f r m (k * 7 + j)) (-35184372088832) :=
  iUp_path (bd_rUp h r m) hr hi hj hk
/-- Nothing comes below closed bounds. -/
structure Under (C : Nat → Int) (r : Nat) (f : Nat → Int) : Prop where
  le : ∀ i j, i < r → j < r → C (i * 7 + j) ≤ f (i * 7 + j)
section
variable {C : Nat → Int} {r : Nat} (hl : ∀ i j, i < r → j < r → -35184372088832 ≤ C (i * 7 + j)) (ht : ∀ i j k, i < r → j < r → k < r → tri C i j k)
include hl ht
theorem un_relax {f : Nat → Int} (h : Under C r f) {i j k : Nat} (hi : i < r) (hj : j < r) (hk : k < r) : Under C r (relax f i j k) := ⟨fun a b ha hb => by
  have h0 := h.le a b ha hb
  have h1 := h.le i k hi hk
  have h2 := h.le k j hk hj
  have h3 := ht i j k hi hj hk
  have h4 := hl a b ha hb
  unfold tri at h3
  unfold relax
  by_cases e : a * 7 + b = i * 7 + j
  · rw [if_pos e]; rw [e] at h0 h4 ⊢; omega
  · rw [if_neg e]; exact h0⟩
theorem un_kUp {f : Nat → Int} (h : Under C r f) {i j : Nat} (hi : i < r) (hj : j < r) : ∀ k, k ≤ r → Under C r (kUp f i j k)
  | 0, _ => h
  | k + 1, hk => un_relax hl ht (un_kUp h hi hj k (by omega)) hi hj (by omega)
theorem un_jUp {f : Nat → Int} (h : Under C r f) {i : Nat} (hi : i < r) : ∀ j, j ≤ r → Under C r (jUp f i r j)
  | 0, _ => h
  | j + 1, hj => un_kUp hl ht (un_jUp h hi j (by omega)) hi (by omega) r (Nat.le_refl r)
theorem un_iUp {f : Nat → Int} (h : Under C r f) : ∀ i, i ≤ r → Under C r (iUp f r i)
  | 0, _ => h
  | i + 1, hi => un_jUp hl ht (un_iUp h i (by omega)) (by omega) r (Nat.le_refl r)
theorem un_rUp {f : Nat → Int} (h : Under C r f) : ∀ n, Under C r (rUp f r n)
  | 0 => h
  | n + 1 => un_iUp hl ht (un_rUp h n) r (Nat.le_refl r)
end
/-- What lies beyond stays. -/
theorem out_relax {f : Nat → Int} {i j k r o : Nat} (ho : ¬ (o / 7 < r ∧ o % 7 < r)) (hi : i < r) (hj : j < r) (hr : r ≤ 7) : relax f i j k o = f o := by
  unfold relax
  rw [if_neg (by omega)]
theorem out_kUp {f : Nat → Int} {i j r o : Nat} (ho : ¬ (o / 7 < r ∧ o % 7 < r)) (hi : i < r) (hj : j < r) (hr : r ≤ 7) : ∀ k, kUp f i j k o = f o
  | 0 => rfl
  | k + 1 => (out_relax ho hi hj hr).trans (out_kUp ho hi hj hr k)
theorem out_jUp {f : Nat → Int} {i r o : Nat} (ho : ¬ (o / 7 < r ∧ o % 7 < r)) (hi : i < r) (hr : r ≤ 7) : ∀ j, j ≤ r → jUp f i r j o = f o
  | 0, _ => rfl
  | j + 1, hj => (out_kUp ho hi (by omega) hr r).trans (out_jUp ho hi hr j (by omega))
theorem out_iUp {f : Nat → Int} {r o : Nat} (ho : ¬ (o / 7 < r ∧ o % 7 < r)) (hr : r ≤ 7) : ∀ i, i ≤ r → iUp f r i o = f o
  | 0, _ => rfl
  | i + 1, hi => (out_jUp ho (by omega) hr r (Nat.le_refl r)).trans (out_iUp ho hr i (by omega))
theorem out_rUp {f : Nat → Int} {r o : Nat} (ho : ¬ (o / 7 < r ∧ o % 7 < r)) (hr : r ≤ 7) : ∀ n, rUp f r n o = f o
  | 0 => rfl
  | n + 1 => (out_iUp ho hr r (Nat.le_refl r)).trans (out_rUp ho hr n)
/-- Closed bounds that are reached are what Close tells. -/
theorem cl_eq {n : Int} {G C : Nat → Int} (hC : Good n (false, C)) (hB : Bd G) (hout : ∀ o, o < 49 → ¬ (o / 7 < R n ∧ o % 7 < R n) → clampTo G (R n) o = 0) (le : ∀ i j, i < R n → j < R n → C (i * 7 + j) ≤ clampTo G (R n) (i * 7 + j))
    (ge : ∀ i j, i < R n → j < R n → rUp (clampTo G (R n)) (R n) (R n + 1) (i * 7 + j) ≤ C (i * 7 + j)) : (clZ n (false, G)).1 = false ∧ ∀ o, o < 49 → (clZ n (false, G)).2 o = C o := by
  have hR := R_le n
  have un := un_rUp (C := C) (fun i j hi hj => by have := (hC.low hi hj).1; dsimp only at this; omega) hC.tri ⟨le⟩ (R n + 1)
  have eq : ∀ o, o < 49 → clF n G o = C o := fun o ho => by
    obtain ⟨e, hi, hj⟩ := at7 ho rfl rfl
    by_cases hr : o / 7 < R n ∧ o % 7 < R n
    · have h1 := un.le _ _ hr.1 hr.2
      have h2 := ge _ _ hr.1 hr.2
      rw [e]
      unfold clF
      omega
    · have h1 : clF n G o = clampTo G (R n) o := out_rUp hr hR.2.1 _
      rw [h1, hout o ho hr, e]
      exact (hC.out _ _ hi hj (by omega)).symm
  have nn : ¬ negD (clF n G) (R n) = true := fun h => by
    obtain ⟨i, hi, hneg⟩ := negD_iff.1 h
    rw [eq _ (by omega)] at hneg
    have := hC.diag i hi
    rw [show i * 8 = i * 7 + i by omega] at hneg
    dsimp only at this
    omega
  have e : clZ n (false, G) = (false, clF n G) := (if_neg (by simp)).trans (if_neg nn)
  rw [e]
  exact ⟨rfl, eq⟩
theorem cl_none {n : Int} {G : Nat → Int} (hB : Bd G) {i m : Nat} (hi : i < R n) (hm : m ≤ R n + 1) (h : rUp (clampTo G (R n)) (R n) m (i * 7 + i) < 0) : clZ n (false, G) = (true, fun _ => 0) := by
  have hR := R_le n
  refine (if_neg (by simp)).trans (if_pos (negD_iff.2 ⟨i, hi, ?_⟩))
  have := rUp_le' (bd_clamp hB (R n)) (R n) hm (i * 7 + i) (by omega)
  rw [show i * 8 = i * 7 + i by omega]
  unfold clF
  dsimp only
  omega
end Go.Proofs.Ytdagadcflignfaa.Sx.Z
