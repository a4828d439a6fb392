/-
  The reference's Close: rounds over all three.
-/
import Derived.Test.YtefdfggkhnahiaaZq
namespace Go.Proofs.Ytefdfggkhnahiaa.Sx.Z
open Go.RowKit
def clampTo (f : Nat → Int) (k : Nat) (o : Nat) : Int := if 1 ≤ o ∧ o < k then min (f o) 2147483648 else if 1 ≤ o / 7 ∧ o / 7 < k ∧ o % 7 = 0 then min (f o) 2147483647 else f o
def relax (f : Nat → Int) (i j k : Nat) (o : Nat) : Int := if o = i * 7 + j then max (min (f o) (f (i * 7 + k) + f (k * 7 + j))) (-35184372088832) else f o
def kUp (f : Nat → Int) (i j : Nat) : Nat → Nat → Int
  | 0 => f
  | k + 1 => relax (kUp f i j k) i j k
def jUp (f : Nat → Int) (i r : Nat) : Nat → Nat → Int
  | 0 => f
  | j + 1 => kUp (jUp f i r j) i j r
def iUp (f : Nat → Int) (r : Nat) : Nat → Nat → Int
  | 0 => f
  | i + 1 => jUp (iUp f r i) i r r
def rUp (f : Nat → Int) (r : Nat) : Nat → Nat → Int
  | 0 => f
  | n + 1 => iUp (rUp f r n) r r
def Bd (f : Nat → Int) : Prop := ∀ o, o < 49 → -35184372088832 ≤ f o ∧ f o ≤ 2199023255552
theorem bd_relax {f : Nat → Int} (h : Bd f) (i j k : Nat) : Bd (relax f i j k) := fun o ho => by
  unfold relax
  have := h o ho
  split <;> omega
theorem bd_kUp {f : Nat → Int} (h : Bd f) (i j : Nat) : ∀ k, Bd (kUp f i j k)
  | 0 => h
  | k + 1 => bd_relax (bd_kUp h i j k) i j k
theorem bd_jUp {f : Nat → Int} (h : Bd f) (i r : Nat) : ∀ j, Bd (jUp f i r j)
  | 0 => h
  | j + 1 => bd_kUp (bd_jUp h i r j) i j r
theorem bd_iUp {f : Nat → Int} (h : Bd f) (r : Nat) : ∀ i, Bd (iUp f r i)
  | 0 => h
  | i + 1 => bd_jUp (bd_iUp h r i) i r r
theorem bd_rUp {f : Nat → Int} (h : Bd f) (r : Nat) : ∀ n, Bd (rUp f r n)
  | 0 => h
  | n + 1 => bd_iUp (bd_rUp h r n) r r
theorem bd_clamp {f : Nat → Int} (h : Bd f) (k : Nat) : Bd (clampTo f k) := fun o ho => by
  unfold clampTo
  have := h o ho
  (repeat' split) <;> omega
def negD (f : Nat → Int) (r : Nat) : Bool := (List.range r).any fun i => decide (f (i * 8) < 0)
theorem negD_iff {f : Nat → Int} {r : Nat} : negD f r = true ↔ ∃ i, i < r ∧ f (i * 8) < 0 := by
  unfold negD
  rw [List.any_eq_true]
  constructor
  · rintro ⟨i, hi, h⟩; exact ⟨i, List.mem_range.1 hi, of_decide_eq_true h⟩
  · rintro ⟨i, hi, h⟩; exact ⟨i, List.mem_range.2 hi, decide_eq_true h⟩
def clF (n : Int) (f : Nat → Int) : Nat → Int := rUp (clampTo f (R n)) (R n) (R n + 1)
def clZ (n : Int) (z : Zs) : Zs := if z.1 = true then (true, fun _ => 0) else if negD (clF n z.2) (R n) = true then (true, fun _ => 0) else (false, clF n z.2)
theorem R_n {n : Int} (h : 0 ≤ n ∧ n ≤ 6) : (R n : Int) = n + 1 := by have := R_le n; rw [rows_n h] at this; exact this.2.2
def rcloseS : FSpec := fun ds _ => match ds with
  | [.i n, .b c, .f f] => some { val := .one (.agg [.c (.int .i64 (.sym (n))), .c (.bool (.sym ((clZ n (c, f)).1))), .ints .i64 (.lit 49) ((clZ n (c, f)).2)]), vc := [0 ≤ n ∧ n ≤ 6, Bd f] }
  | _ => none
def rcloseC : Con := con [zA] rcloseS
theorem rclose_ok : ConOK Try.prog 41 rcloseC := by
  refine fn_ob tt_ok mixed Try.func41 rfl (fun _ _ => by kernel_rfl) (A := fun ds => ⟨fun _ => Cons.of [], fun k => match k, ds with | 4, [.i n, .b c, .f f] => some { ι := Nat, pre := fun _ i => 1 ≤ i ∧ i ≤ R n, μ := fun i => 9 - i, st := fun s i => famR s [(3, .one (.sc (.int .i64 (.sym ((i : Nat))))))] [1, 2] [(idOf s 1, .own 32 (zs (.sym n) (.sym c) (clampTo f i)))] [2] } | 9, [.i n, .b c, .f f] => some { ι := Nat, pre := fun _ i => i ≤ R n + 1, μ := fun i => 9 - i, st := fun s i => famR s [(4, .one (.sc (.int .i64 (.sym ((i : Nat))))))] [1, 2] [(idOf s 1, .own 32 (zs (.sym n) (.sym c) (rUp (clampTo f (R n)) (R n) i)))] [2] } | 12, [.i n, .b c, .f f] => some { ι := Nat, pre := fun _ i => i ≤ R n, μ := fun i => 9 - i, st := fun s i => famR s [(5, .one (.sc (.int .i64 (.sym ((i : Nat))))))] [1, 2, 4] [(idOf s 1, .own 32 (zs (.sym n) (.sym c) (iUp (rUp (clampTo f (R n)) (R n) (slotN s 4)) (R n) i)))] [2] } | 15, [.i n, .b c, .f f] => some { ι := Nat, pre := fun _ i => i ≤ R n, μ := fun i => 9 - i, st := fun s i => famR s [(6, .one (.sc (.int .i64 (.sym ((i : Nat))))))] [1, 2, 4, 5] [(idOf s 1, .own 32 (zs (.sym n) (.sym c) (jUp (iUp (rUp (clampTo f (R n)) (R n) (slotN s 4)) (R n) (slotN s 5)) (slotN s 5) (R n) i)))] [2] } | 18, [.i n, .b c, .f f] => some { ι := Nat, pre := fun _ i => i ≤ R n, μ := fun i => 9 - i, st := fun s i => famR s [(7, .one (.sc (.int .i64 (.sym ((i : Nat))))))] [1, 2, 4, 5, 6] [(idOf s 1, .own 32 (zs (.sym n) (.sym c) (kUp (jUp (iUp (rUp (clampTo f (R n)) (R n) (slotN s 4)) (R n) (slotN s 5)) (slotN s 5) (R n) (slotN s 6)) (slotN s 5) (slotN s 6) i)))] [2] } | 22, [.i n, .b c, .f f] => some { ι := Nat, pre := fun _ i => i ≤ R n ∧ ∀ j, j < i → 0 ≤ clF n f (j * 8), μ := fun i => 9 - i, st := fun s i => famR s [(8, .one (.sc (.int .i64 (.sym ((i : Nat))))))] [1, 2] [(idOf s 1, .own 32 (zs (.sym n) (.sym c) (clF n f)))] [2] } | _, _ => none, fun _ => none⟩) (fun _ _ => cons_nil) (by kernel_rfl) ?_
  intro ds fr
  unfold rcloseS
  split
  · rename_i n c f
    refine kmp (q := (0 : Int) ≤ n ∧ n ≤ (6 : Int) →
 Bd f →
 (c = true → n = n ∧ true = (clZ n (c, f)).fst ∧ ∀ (o : Nat), o < nat_lit 49 → (0 : Int) = (clZ n (c, f)).snd o) ∧
 (c = false →
 (∃ (i : Nat),
 ((1 : Nat) ≤ i ∧ i ≤ R n) ∧
 (1 : Int) = (↑i : Int) ∧
 n = n ∧
 c = c ∧
 (∀ (o : Nat), o < nat_lit 49 → f o = clampTo f i o) ∧
 (0 : Int) = (0 : Int) ∧ false = false ∧ ∀ (o : Nat), o < nat_lit 49 → (0 : Int) = (0 : Int)) ∧
 ∀ (i : Nat),
 (1 : Nat) ≤ i ∧ i ≤ R n →
 (decide ((↑i : Int) ≤ n) = true →
 ((0 : Int) ≤ (↑i : Int) ∧ (↑i : Int) < (↑(7 : Nat) : Int)) ∧
 nat_lit 0 + (↑i : Int).toNat * (7 : Nat) < nat_lit 49 ∧
 ((0 : Int) ≤ (↑i : Int) ∧ (↑i : Int) < (↑(7 : Nat) : Int)) ∧
 nat_lit 0 + (↑i : Int).toNat * (7 : Nat) + (1 : Nat) ≤ nat_lit 49 ∧
 ((0 : Int) ≤ (↑i : Int) ∧ (↑i : Int) < (↑(7 : Nat) : Int)) ∧
 nat_lit 0 + (↑i : Int).toNat * (1 : Nat) < nat_lit 49 ∧
 ((0 : Int) ≤ (↑i : Int) ∧ (↑i : Int) < (↑(7 : Nat) : Int)) ∧
 nat_lit 0 + (↑i : Int).toNat * (1 : Nat) + (1 : Nat) ≤ nat_lit 49 ∧
 ∃ (j : Nat),
 ((1 : Nat) ≤ j ∧ j ≤ R n) ∧
 (9 : Nat) - j < (9 : Nat) - i ∧
 IntKind.i64.wrap ((↑i : Int) + (1 : Int)) = (↑j : Int) ∧
 n = n ∧
 c = c ∧
 (∀ (o : Nat),
 o < nat_lit 49 →
 (if
 ((nat_lit 0 + (↑i : Int).toNat * (1 : Nat)).ble o &&
 o.blt (nat_lit 0 + (↑i : Int).toNat * (1 : Nat) + (1 : Nat))) =
 true then
 if
 (2147483648 : Int) <
 if
 ((nat_lit 0 + (↑i : Int).toNat * (7 : Nat)).ble (nat_lit 0 + (↑i : Int).toNat * (1 : Nat)) &&
 (nat_lit 0 + (↑i : Int).toNat * (1 : Nat)).blt
 (nat_lit 0 + (↑i : Int).toNat * (7 : Nat) + (1 : Nat))) =
 true then
 if (2147483647 : Int) < clampTo f i (nat_lit 0 + (↑i : Int).toNat * (7 : Nat)) then
 (2147483647 : Int)
 else clampTo f i (nat_lit 0 + (↑i : Int).toNat * (7 : Nat))
 else clampTo f i (nat_lit 0 + (↑i : Int).toNat * (1 : Nat)) then
 (2147483648 : Int)
 else
 if
 ((nat_lit 0 + (↑i : Int).toNat * (7 : Nat)).ble (nat_lit 0 + (↑i : Int).toNat * (1 : Nat)) &&
 (nat_lit 0 + (↑i : Int).toNat * (1 : Nat)).blt
 (nat_lit 0 + (↑i : Int).toNat * (7 : Nat) + (1 : Nat))) =
 true then
 if (2147483647 : Int) < clampTo f i (nat_lit 0 + (↑i : Int).toNat * (7 : Nat)) then
 (2147483647 : Int)
 else clampTo f i (nat_lit 0 + (↑i : Int).toNat * (7 : Nat))
 else clampTo f i (nat_lit 0 + (↑i : Int).toNat * (1 : Nat))
 else
 if
 ((nat_lit 0 + (↑i : Int).toNat * (7 : Nat)).ble o &&
 o.blt (nat_lit 0 + (↑i : Int).toNat * (7 : Nat) + (1 : Nat))) =
 true then
 if (2147483647 : Int) < clampTo f i (nat_lit 0 + (↑i : Int).toNat * (7 : Nat)) then (2147483647 : Int)
 else clampTo f i (nat_lit 0 + (↑i : Int).toNat * (7 : Nat))
 else clampTo f i o) =
 clampTo f j o) ∧
 (0 : Int) = (0 : Int) ∧ false = false ∧ ∀ (o : Nat), o < nat_lit 49 → (0 : Int) = (0 : Int)) ∧
 (decide ((↑i : Int) ≤ n) = false →
 (∃ (i_1 : Nat),
 i_1.le (R n + (1 : Nat)) ∧
 (0 : Int) = (↑i_1 : Int) ∧
 n = n ∧
 c = c ∧
 (∀ (o : Nat), o < nat_lit 49 → clampTo f i o = rUp (clampTo f (R n)) (R n) i_1 o) ∧
 (0 : Int) = (0 : Int) ∧ false = false ∧ ∀ (o : Nat), o < nat_lit 49 → (0 : Int) = (0 : Int)) ∧
 ∀ (i : Nat),
 i.le (R n + (1 : Nat)) →
 (decide ((↑i : Int) ≤ IntKind.i64.wrap (n + (1 : Int))) = true →
 (∃ (i_1 : Nat),
 i_1.le (R n) ∧
 (0 : Int) = (↑i_1 : Int) ∧
 (↑i : Int) = (↑i : Int) ∧
 n = n ∧
 c = c ∧
 (∀ (o : Nat),
 o < nat_lit 49 →
 rUp (clampTo f (R n)) (R n) i o = iUp (rUp (clampTo f (R n)) (R n) (↑i : Int).toNat) (R n) i_1 o) ∧
 (0 : Int) = (0 : Int) ∧ false = false ∧ ∀ (o : Nat), o < nat_lit 49 → (0 : Int) = (0 : Int)) ∧
 ∀ (i_1 : Nat),
 i_1.le (R n) →
 (decide ((↑i_1 : Int) ≤ n) = true →
 (∃ (i_2 : Nat),
 i_2.le (R n) ∧
 (0 : Int) = (↑i_2 : Int) ∧
 (↑i : Int) = (↑i : Int) ∧
 (↑i_1 : Int) = (↑i_1 : Int) ∧
 n = n ∧
 c = c ∧
 (∀ (o : Nat),
 o < nat_lit 49 →
 iUp (rUp (clampTo f (R n)) (R n) (↑i : Int).toNat) (R n) i_1 o =
 jUp (iUp (rUp (clampTo f (R n)) (R n) (↑i : Int).toNat) (R n) (↑i_1 : Int).toNat)
 (↑i_1 : Int).toNat (R n) i_2 o) ∧
 (0 : Int) = (0 : Int) ∧ false = false ∧ ∀ (o : Nat), o < nat_lit 49 → (0 : Int) = (0 : Int)) ∧
 ∀ (i_2 : Nat),
 i_2.le (R n) →
 (decide ((↑i_2 : Int) ≤ n) = true →
 (∃ (i_3 : Nat),
 i_3.le (R n) ∧
 (0 : Int) = (↑i_3 : Int) ∧
 (↑i : Int) = (↑i : Int) ∧
 (↑i_1 : Int) = (↑i_1 : Int) ∧
 (↑i_2 : Int) = (↑i_2 : Int) ∧
 n = n ∧
 c = c ∧
 (∀ (o : Nat),
 o < nat_lit 49 →
 jUp (iUp (rUp (clampTo f (R n)) (R n) (↑i : Int).toNat) (R n) (↑i_1 : Int).toNat)
 (↑i_1 : Int).toNat (R n) i_2 o =
 kUp
 (jUp (iUp (rUp (clampTo f (R n)) (R n) (↑i : Int).toNat) (R n) (↑i_1 : Int).toNat)
 (↑i_1 : Int).toNat (R n) (↑i_2 : Int).toNat)
 (↑i_1 : Int).toNat (↑i_2 : Int).toNat i_3 o) ∧
 (0 : Int) = (0 : Int) ∧
 false = false ∧ ∀ (o : Nat), o < nat_lit 49 → (0 : Int) = (0 : Int)) ∧
 ∀ (i_3 : Nat),
 i_3.le (R n) →
 (decide ((↑i_3 : Int) ≤ n) = true →
 ((0 : Int) ≤ (↑i_1 : Int) ∧ (↑i_1 : Int) < (↑(7 : Nat) : Int)) ∧
 ((0 : Int) ≤ (↑i_2 : Int) ∧ (↑i_2 : Int) < (↑(7 : Nat) : Int)) ∧
 nat_lit 0 + ((↑i_1 : Int).toNat * (7 : Nat) + (↑i_2 : Int).toNat * (1 : Nat)) < nat_lit 49 ∧
 ((0 : Int) ≤ (↑i_1 : Int) ∧ (↑i_1 : Int) < (↑(7 : Nat) : Int)) ∧
 ((0 : Int) ≤ (↑i_3 : Int) ∧ (↑i_3 : Int) < (↑(7 : Nat) : Int)) ∧
 nat_lit 0 + ((↑i_1 : Int).toNat * (7 : Nat) + (↑i_3 : Int).toNat * (1 : Nat)) < nat_lit 49 ∧
 ((0 : Int) ≤ (↑i_3 : Int) ∧ (↑i_3 : Int) < (↑(7 : Nat) : Int)) ∧
 ((0 : Int) ≤ (↑i_2 : Int) ∧ (↑i_2 : Int) < (↑(7 : Nat) : Int)) ∧
 nat_lit 0 + ((↑i_3 : Int).toNat * (7 : Nat) + (↑i_2 : Int).toNat * (1 : Nat)) <
 nat_lit 49 ∧
 ((0 : Int) ≤ (↑i_1 : Int) ∧ (↑i_1 : Int) < (↑(7 : Nat) : Int)) ∧
 ((0 : Int) ≤ (↑i_2 : Int) ∧ (↑i_2 : Int) < (↑(7 : Nat) : Int)) ∧
 nat_lit 0 + ((↑i_1 : Int).toNat * (7 : Nat) + (↑i_2 : Int).toNat * (1 : Nat)) +
 (1 : Nat) ≤
 nat_lit 49 ∧
 ∃ (j : Nat),
 j.le (R n) ∧
 (9 : Nat) - j < (9 : Nat) - i_3 ∧
 IntKind.i64.wrap ((↑i_3 : Int) + (1 : Int)) = (↑j : Int) ∧
 (↑i : Int) = (↑i : Int) ∧
 (↑i_1 : Int) = (↑i_1 : Int) ∧
 (↑i_2 : Int) = (↑i_2 : Int) ∧
 n = n ∧
 c = c ∧
 (∀ (o : Nat),
 o < nat_lit 49 →
 (if
 ((nat_lit 0 +
 ((↑i_1 : Int).toNat * (7 : Nat) +
 (↑i_2 : Int).toNat * (1 : Nat))).ble
 o &&
 o.blt
 (nat_lit 0 +
 ((↑i_1 : Int).toNat * (7 : Nat) +
 (↑i_2 : Int).toNat * (1 : Nat)) +
 (1 : Nat))) =
 true then
 if
 (-35184372088832 : Int) >
 if
 IntKind.i64.wrap
 (kUp
 (jUp
 (iUp
 (rUp (clampTo f (R n)) (R n)
 (↑i : Int).toNat)
 (R n) (↑i_1 : Int).toNat)
 (↑i_1 : Int).toNat (R n)
 (↑i_2 : Int).toNat)
 (↑i_1 : Int).toNat
 (↑i_2 : Int).toNat i_3
 (nat_lit 0 +
 ((↑i_1 : Int).toNat *
 (7 : Nat) +
 (↑i_3 : Int).toNat *
 (1 : Nat))) +
 kUp
 (jUp
 (iUp
 (rUp (clampTo f (R n)) (R n)
 (↑i : Int).toNat)
 (R n) (↑i_1 : Int).toNat)
 (↑i_1 : Int).toNat (R n)
 (↑i_2 : Int).toNat)
 (↑i_1 : Int).toNat
 (↑i_2 : Int).toNat i_3
 (nat_lit 0 +
 ((↑i_3 : Int).toNat *
 (7 : Nat) +
 (↑i_2 : Int).toNat *
 (1 : Nat)))) <
 kUp
 (jUp
 (iUp
 (rUp (clampTo f (R n)) (R n)
 (↑i : Int).toNat)
 (R n) (↑i_1 : Int).toNat)
 (↑i_1 : Int).toNat (R n)
 (↑i_2 : Int).toNat)
 (↑i_1 : Int).toNat
 (↑i_2 : Int).toNat i_3
 (nat_lit 0 +
 ((↑i_1 : Int).toNat * (7 : Nat) +
 (↑i_2 : Int).toNat *
 (1 : Nat))) then
 IntKind.i64.wrap
 (kUp
 (jUp
 (iUp
 (rUp (clampTo f (R n)) (R n)
 (↑i : Int).toNat)
 (R n) (↑i_1 : Int).toNat)
 (↑i_1 : Int).toNat (R n)
 (↑i_2 : Int).toNat)
 (↑i_1 : Int).toNat
 (↑i_2 : Int).toNat i_3
 (nat_lit 0 +
 ((↑i_1 : Int).toNat * (7 : Nat) +
 (↑i_3 : Int).toNat *
 (1 : Nat))) +
 kUp
 (jUp
 (iUp
 (rUp (clampTo f (R n)) (R n)
 (↑i : Int).toNat)
 (R n) (↑i_1 : Int).toNat)
 (↑i_1 : Int).toNat (R n)
 (↑i_2 : Int).toNat)
 (↑i_1 : Int).toNat
 (↑i_2 : Int).toNat i_3
 (nat_lit 0 +
 ((↑i_3 : Int).toNat * (7 : Nat) +
 (↑i_2 : Int).toNat *
 (1 : Nat))))
 else
 kUp
 (jUp
 (iUp
 (rUp (clampTo f (R n)) (R n)
 (↑i : Int).toNat)
 (R n) (↑i_1 : Int).toNat)
 (↑i_1 : Int).toNat (R n)
 (↑i_2 : Int).toNat)
 (↑i_1 : Int).toNat (↑i_2 : Int).toNat
 i_3
 (nat_lit 0 +
 ((↑i_1 : Int).toNat * (7 : Nat) +
 (↑i_2 : Int).toNat *
 (1 : Nat))) then
 (-35184372088832 : Int)
 else
 if
 IntKind.i64.wrap
 (kUp
 (jUp
 (iUp
 (rUp (clampTo f (R n)) (R n)
 (↑i : Int).toNat)
 (R n) (↑i_1 : Int).toNat)
 (↑i_1 : Int).toNat (R n)
 (↑i_2 : Int).toNat)
 (↑i_1 : Int).toNat
 (↑i_2 : Int).toNat i_3
 (nat_lit 0 +
 ((↑i_1 : Int).toNat * (7 : Nat) +
 (↑i_3 : Int).toNat *
 (1 : Nat))) +
 kUp
 (jUp
 (iUp
 (rUp (clampTo f (R n)) (R n)
 (↑i : Int).toNat)
 (R n) (↑i_1 : Int).toNat)
 (↑i_1 : Int).toNat (R n)
 (↑i_2 : Int).toNat)
 (↑i_1 : Int).toNat
 (↑i_2 : Int).toNat i_3
 (nat_lit 0 +
 ((↑i_3 : Int).toNat * (7 : Nat) +
 (↑i_2 : Int).toNat *
 (1 : Nat)))) <
 kUp
 (jUp
 (iUp
 (rUp (clampTo f (R n)) (R n)
 (↑i : Int).toNat)
 (R n) (↑i_1 : Int).toNat)
 (↑i_1 : Int).toNat (R n)
 (↑i_2 : Int).toNat)
 (↑i_1 : Int).toNat (↑i_2 : Int).toNat
 i_3
 (nat_lit 0 +
 ((↑i_1 : Int).toNat * (7 : Nat) +
 (↑i_2 : Int).toNat *
 (1 : Nat))) then
 IntKind.i64.wrap
 (kUp
 (jUp
 (iUp
 (rUp (clampTo f (R n)) (R n)
 (↑i : Int).toNat)
 (R n) (↑i_1 : Int).toNat)
 (↑i_1 : Int).toNat (R n)
 (↑i_2 : Int).toNat)
 (↑i_1 : Int).toNat (↑i_2 : Int).toNat
 i_3
 (nat_lit 0 +
 ((↑i_1 : Int).toNat * (7 : Nat) +
 (↑i_3 : Int).toNat * (1 : Nat))) +
 kUp
 (jUp
 (iUp
 (rUp (clampTo f (R n)) (R n)
 (↑i : Int).toNat)
 (R n) (↑i_1 : Int).toNat)
 (↑i_1 : Int).toNat (R n)
 (↑i_2 : Int).toNat)
 (↑i_1 : Int).toNat (↑i_2 : Int).toNat
 i_3
 (nat_lit 0 +
 ((↑i_3 : Int).toNat * (7 : Nat) +
 (↑i_2 : Int).toNat * (1 : Nat))))
 else
 kUp
 (jUp
 (iUp
 (rUp (clampTo f (R n)) (R n)
 (↑i : Int).toNat)
 (R n) (↑i_1 : Int).toNat)
 (↑i_1 : Int).toNat (R n)
 (↑i_2 : Int).toNat)
 (↑i_1 : Int).toNat (↑i_2 : Int).toNat i_3
 (nat_lit 0 +
 ((↑i_1 : Int).toNat * (7 : Nat) +
 (↑i_2 : Int).toNat * (1 : Nat)))
 else
 kUp
 (jUp
 (iUp
 (rUp (clampTo f (R n)) (R n)
 (↑i : Int).toNat)
 (R n) (↑i_1 : Int).toNat)
 (↑i_1 : Int).toNat (R n) (↑i_2 : Int).toNat)
 (↑i_1 : Int).toNat (↑i_2 : Int).toNat i_3 o) =
 kUp
 (jUp
 (iUp
 (rUp (clampTo f (R n)) (R n) (↑i : Int).toNat)
 (R n) (↑i_1 : Int).toNat)
 (↑i_1 : Int).toNat (R n) (↑i_2 : Int).toNat)
 (↑i_1 : Int).toNat (↑i_2 : Int).toNat j o) ∧
 (0 : Int) = (0 : Int) ∧
 false = false ∧
 ∀ (o : Nat), o < nat_lit 49 → (0 : Int) = (0 : Int)) ∧
 (decide ((↑i_3 : Int) ≤ n) = false →
 ∃ (j : Nat),
 j.le (R n) ∧
 (9 : Nat) - j < (9 : Nat) - i_2 ∧
 IntKind.i64.wrap ((↑i_2 : Int) + (1 : Int)) = (↑j : Int) ∧
 (↑i : Int) = (↑i : Int) ∧
 (↑i_1 : Int) = (↑i_1 : Int) ∧
 n = n ∧
 c = c ∧
 (∀ (o : Nat),
 o < nat_lit 49 →
 kUp
 (jUp
 (iUp (rUp (clampTo f (R n)) (R n) (↑i : Int).toNat) (R n)
 (↑i_1 : Int).toNat)
 (↑i_1 : Int).toNat (R n) (↑i_2 : Int).toNat)
 (↑i_1 : Int).toNat (↑i_2 : Int).toNat i_3 o =
 jUp
 (iUp (rUp (clampTo f (R n)) (R n) (↑i : Int).toNat) (R n)
 (↑i_1 : Int).toNat)
 (↑i_1 : Int).toNat (R n) j o) ∧
 (0 : Int) = (0 : Int) ∧
 false = false ∧ ∀ (o : Nat), o < nat_lit 49 → (0 : Int) = (0 : Int))) ∧
 (decide ((↑i_2 : Int) ≤ n) = false →
 ∃ (j : Nat),
 j.le (R n) ∧
 (9 : Nat) - j < (9 : Nat) - i_1 ∧
 IntKind.i64.wrap ((↑i_1 : Int) + (1 : Int)) = (↑j : Int) ∧
 (↑i : Int) = (↑i : Int) ∧
 n = n ∧
 c = c ∧
 (∀ (o : Nat),
 o < nat_lit 49 →
 jUp (iUp (rUp (clampTo f (R n)) (R n) (↑i : Int).toNat) (R n) (↑i_1 : Int).toNat)
 (↑i_1 : Int).toNat (R n) i_2 o =
 iUp (rUp (clampTo f (R n)) (R n) (↑i : Int).toNat) (R n) j o) ∧
 (0 : Int) = (0 : Int) ∧ false = false ∧ ∀ (o : Nat), o < nat_lit 49 → (0 : Int) = (0 : Int))) ∧
 (decide ((↑i_1 : Int) ≤ n) = false →
 ∃ (j : Nat),
 j.le (R n + (1 : Nat)) ∧
 (9 : Nat) - j < (9 : Nat) - i ∧
 IntKind.i64.wrap ((↑i : Int) + (1 : Int)) = (↑j : Int) ∧
 n = n ∧
 c = c ∧
 (∀ (o : Nat),
 o < nat_lit 49 →
 iUp (rUp (clampTo f (R n)) (R n) (↑i : Int).toNat) (R n) i_1 o = rUp (clampTo f (R n)) (R n) j o) ∧
 (0 : Int) = (0 : Int) ∧ false = false ∧ ∀ (o : Nat), o < nat_lit 49 → (0 : Int) = (0 : Int))) ∧
 (decide ((↑i : Int) ≤ IntKind.i64.wrap (n + (1 : Int))) = false →
 (∃ (i_1 : Nat),
 (i_1 ≤ R n ∧ ∀ (j : Nat), j < i_1 → (0 : Int) ≤ clF n f (j * (8 : Nat))) ∧
 (0 : Int) = (↑i_1 : Int) ∧
 n = n ∧
 c = c ∧
 (∀ (o : Nat), o < nat_lit 49 → rUp (clampTo f (R n)) (R n) i o = clF n f o) ∧
 (0 : Int) = (0 : Int) ∧ false = false ∧ ∀ (o : Nat), o < nat_lit 49 → (0 : Int) = (0 : Int)) ∧
 ∀ (i : Nat),
 (i ≤ R n ∧ ∀ (j : Nat), j < i → (0 : Int) ≤ clF n f (j * (8 : Nat))) →
 (decide ((↑i : Int) ≤ n) = true →
 ((0 : Int) ≤ (↑i : Int) ∧ (↑i : Int) < (↑(7 : Nat) : Int)) ∧
 ((0 : Int) ≤ (↑i : Int) ∧ (↑i : Int) < (↑(7 : Nat) : Int)) ∧
 nat_lit 0 + ((↑i : Int).toNat * (7 : Nat) + (↑i : Int).toNat * (1 : Nat)) < nat_lit 49 ∧
 (decide (clF n f (nat_lit 0 + ((↑i : Int).toNat * (7 : Nat) + (↑i : Int).toNat * (1 : Nat))) < (0 : Int)) = true →
 n = n ∧ true = (clZ n (c, f)).fst ∧ ∀ (o : Nat), o < nat_lit 49 → (0 : Int) = (clZ n (c, f)).snd o) ∧
 (decide (clF n f (nat_lit 0 + ((↑i : Int).toNat * (7 : Nat) + (↑i : Int).toNat * (1 : Nat))) < (0 : Int)) =
 false →
 ∃ (j : Nat),
 (j ≤ R n ∧ ∀ (j_1 : Nat), j_1 < j → (0 : Int) ≤ clF n f (j_1 * (8 : Nat))) ∧
 (9 : Nat) - j < (9 : Nat) - i ∧
 IntKind.i64.wrap ((↑i : Int) + (1 : Int)) = (↑j : Int) ∧
 n = n ∧
 c = c ∧
 (∀ (o : Nat), o < nat_lit 49 → clF n f o = clF n f o) ∧
 (0 : Int) = (0 : Int) ∧ false = false ∧ ∀ (o : Nat), o < nat_lit 49 → (0 : Int) = (0 : Int))) ∧
 (decide ((↑i : Int) ≤ n) = false →
 n = n ∧ c = (clZ n (c, f)).fst ∧ ∀ (o : Nat), o < nat_lit 49 → clF n f o = (clZ n (c, f)).snd o))))) (by kernel_rfl) ?_
    simp only [raw0, true_and, and_true, implies_true, Nat.mul_one, Int.toNat_natCast, c7, decide_eq_true_eq, decide_eq_false_iff_not, Nat.zero_add, forall_const, Nat.le_eq, at_iff, bne_iff_ne, bne_eq_false_iff_eq, and_self, and_self_left, Nat.reduceAdd]
    intro hn hb
    have hR := R_le n
    have hRn := R_n hn
    have hcl := bd_clamp hb (R n)
    rw [wr (n + 1) (by omega)]
    refine ⟨fun hc => ?_, fun hc => ⟨⟨1, by omega, rfl, fun o ho => ?_⟩, fun i hi => ⟨fun h1 => ?_, fun h1 => ⟨⟨0, by omega, rfl, fun o ho => ?_⟩, fun a ha => ⟨fun h2 => ⟨⟨0, by omega, rfl, fun o ho => rfl⟩, fun b hb2 => ⟨fun h3 => ⟨⟨0, by omega, rfl, fun o ho => rfl⟩, fun d hd => ⟨fun h4 => ⟨⟨0, by omega, rfl, fun o ho => rfl⟩, fun e he => ⟨fun h5 => ?_, fun h5 => ?_⟩⟩, fun h4 => ?_⟩⟩, fun h3 => ?_⟩⟩, fun h2 => ⟨⟨0, ⟨by omega, fun j hj => absurd hj (Nat.not_lt_zero j)⟩, rfl, fun o ho => ?_⟩, fun b hb2 => ⟨fun h3 => ⟨by omega, by omega, fun h4 => ?_, fun h4 => ?_⟩, fun h3 => ?_⟩⟩⟩⟩⟩⟩⟩
    · have e : clZ n (c, f) = (true, fun _ => 0) := if_pos hc
      rw [e]; exact ⟨rfl, fun _ _ => rfl⟩
    · unfold clampTo; rw [if_neg (by omega), if_neg (by omega)]
    · rw [wr _ (by omega)]
      refine ⟨by omega, by omega, by omega, by omega, by omega, by omega, by omega, by omega, i + 1, by omega, by omega, by omega, fun o ho => ?_⟩
      by_cases h2 : o = i
      · subst h2
        have e1 : clampTo f o o = f o := by unfold clampTo; rw [if_neg (by omega), if_neg (by omega)]
        simp only [if_neg (show ¬ o = o * 7 by omega), e1, if_true]
        have e2 : clampTo f (o + 1) o = min (f o) 2147483648 := if_pos (by omega)
        rw [e2]
        split <;> omega
      · by_cases h3 : o = i * 7
        · subst h3
          have e1 : clampTo f i (i * 7) = f (i * 7) := by unfold clampTo; rw [if_neg (by omega), if_neg (by omega)]
          simp only [if_neg h2, e1, if_true]
          have e2 : clampTo f (i + 1) (i * 7) = min (f (i * 7)) 2147483647 := (if_neg (by omega)).trans (if_pos (by omega))
          rw [e2]
          split <;> omega
        · simp only [if_neg h2, if_neg h3]
          unfold clampTo
          exact icg (by omega) rfl (icg (by omega) rfl rfl)
    · rw [show i = R n by omega]; rfl
    · have hB := bd_kUp (bd_jUp (bd_iUp (bd_rUp hcl (R n) a) (R n) b) b (R n) d) b d e
      have hs : kUp (jUp (iUp (rUp (clampTo f (R n)) (R n) a) (R n) b) b (R n) d) b d (e + 1) = relax (kUp (jUp (iUp (rUp (clampTo f (R n)) (R n) a) (R n) b) b (R n) d) b d e) b d e := rfl
      generalize kUp (jUp (iUp (rUp (clampTo f (R n)) (R n) a) (R n) b) b (R n) d) b d e = q at hB hs ⊢
      have q1 := hB (b * 7 + e) (by omega)
      have q2 := hB (e * 7 + d) (by omega)
      rw [wr (q (b * 7 + e) + q (e * 7 + d)) (by omega)]
      refine ⟨by omega, by omega, by omega, by omega, by omega, by omega, by omega, by omega, by omega, by omega, by omega, by omega, e + 1, by omega, by omega, by rw [wr _ (by omega)]; omega, fun o ho => ?_⟩
      rw [hs]
      unfold relax
      by_cases h : o = b * 7 + d
      · rw [if_pos h, if_pos h, h]
        (repeat' split) <;> omega
      · rw [if_neg h, if_neg h]
    · exact ⟨d + 1, by omega, by omega, by rw [wr _ (by omega)]; omega, fun o ho => by rw [show e = R n by omega]; rfl⟩
    · exact ⟨b + 1, by omega, by omega, by rw [wr _ (by omega)]; omega, fun o ho => by rw [show d = R n by omega]; rfl⟩
    · exact ⟨a + 1, by omega, by omega, by rw [wr _ (by omega)]; omega, fun o ho => by rw [show b = R n by omega]; rfl⟩
    · rw [show a = R n + 1 by omega]; rfl
    · have e : clZ n (c, f) = (true, fun _ => 0) := (if_neg (by rw [hc]; simp)).trans (if_pos (negD_iff.2 ⟨b, by omega, by rw [show b * 8 = b * 7 + b by omega]; exact h4⟩))
      rw [e]; exact ⟨rfl, fun _ _ => rfl⟩
    · refine ⟨b + 1, ⟨by omega, fun j hj => ?_⟩, by omega, by rw [wr _ (by omega)]; omega⟩
      by_cases h : j < b
      · exact hb2.2 j h
      · rw [show j * 8 = b * 7 + b by omega]; omega
    · have e : clZ n (c, f) = (false, clF n f) := (if_neg (by rw [hc]; simp)).trans (if_neg (fun h => by
        obtain ⟨j, hj, hneg⟩ := negD_iff.1 h
        have := hb2.2 j (by omega)
        dsimp only at hneg
        omega))
      rw [e, hc]; exact ⟨rfl, fun _ _ => rfl⟩
  · trivial
end Go.Proofs.Ytefdfggkhnahiaa.Sx.Z
