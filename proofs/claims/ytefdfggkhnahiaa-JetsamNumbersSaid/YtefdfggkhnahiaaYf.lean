/-
  The reference's Top, Bound, Forget, Copy: what the program's tell.
-/
import Derived.Test.YtefdfggkhnahiaaYe
namespace Go.Proofs.Ytefdfggkhnahiaa.Sx.Z
open Go.RowKit
def tpUp (r k m : Nat) (o : Nat) : Int := if (o / 7 < k ∨ o / 7 = k ∧ o % 7 < m) ∧ o % 7 < r ∧ o / 7 ≠ o % 7 then 1099511627776 else 0
def rfTo (f : Nat → Int) (a k : Nat) (o : Nat) : Int := if (o / 7 < k ∧ o % 7 = a ∧ o / 7 ≠ a) ∨ (o % 7 < k ∧ o / 7 = a ∧ o % 7 ≠ a) then 1099511627776 else f o
def rtopS : FSpec := fun ds _ => match ds with
  | [.i n] => some { val := .one (.agg [.c (.int .i64 (.sym (topN n))), .c (.bool (.sym (false))), .ints .i64 (.lit 49) (topF n)]), vc := [] }
  | _ => none
def rtopC : Con := con [iA] rtopS
theorem rtop_ok : ConOK Try.prog 12 rtopC := by
  refine fn_ob tt_ok mixed Try.func12 rfl (fun _ _ => by kernel_rfl) (A := fun ds => ⟨fun _ => Cons.of [(41, rcloseC)], fun k => match k, ds with | 4, [.i n] => some { ι := Nat, pre := fun _ i => i ≤ R (topN n), μ := fun i => 9 - i, st := fun s i => famR s [(0, .one (.sc (.int .i64 (.sym (topN n))))), (4, .one (.sc (.int .i64 (.sym ((i : Nat))))))] [2, 3] [(idOf s 3, .own 32 (zs (.sym (topN n)) (.lit false) (tpUp (R (topN n)) i 0)))] [2] } | 7, [.i n] => some { ι := Nat, pre := fun _ i => i ≤ R (topN n), μ := fun i => 9 - i, st := fun s i => famR s [(5, .one (.sc (.int .i64 (.sym ((i : Nat))))))] [0, 2, 3, 4] [(idOf s 3, .own 32 (zs (.sym (topN n)) (.lit false) (tpUp (R (topN n)) (slotN s 4) i)))] [2] } | _, _ => none, fun _ => none⟩) (fun _ _ => (cons_cons rclose_ok cons_nil)) (by kernel_rfl) ?_
  intro ds fr
  unfold rtopS
  split
  · rename_i n
    refine kmp (q := (∃ (i : Nat),
 i.le (R (topN n)) ∧
 (if (6 : Int) < if (0 : Int) > n then (0 : Int) else n then (6 : Int) else if (0 : Int) > n then (0 : Int) else n) = topN n ∧
 (0 : Int) = (↑i : Int) ∧
 (if (6 : Int) < if (0 : Int) > n then (0 : Int) else n then (6 : Int) else if (0 : Int) > n then (0 : Int) else n) = topN n ∧
 false = false ∧
 (∀ (o : Nat), o < nat_lit 49 → (0 : Int) = tpUp (R (topN n)) i (0 : Nat) o) ∧
 (0 : Int) = (0 : Int) ∧ false = false ∧ ∀ (o : Nat), o < nat_lit 49 → (0 : Int) = (0 : Int)) ∧
 ∀ (i : Nat),
 i.le (R (topN n)) →
 (decide ((↑i : Int) ≤ topN n) = true →
 (∃ (i_1 : Nat),
 i_1.le (R (topN n)) ∧
 (0 : Int) = (↑i_1 : Int) ∧
 topN n = topN n ∧
 (↑i : Int) = (↑i : Int) ∧
 topN n = topN n ∧
 false = false ∧
 (∀ (o : Nat), o < nat_lit 49 → tpUp (R (topN n)) i (0 : Nat) o = tpUp (R (topN n)) (↑i : Int).toNat i_1 o) ∧
 (0 : Int) = (0 : Int) ∧ false = false ∧ ∀ (o : Nat), o < nat_lit 49 → (0 : Int) = (0 : Int)) ∧
 ∀ (i_1 : Nat),
 i_1.le (R (topN n)) →
 (decide ((↑i_1 : Int) ≤ topN n) = true →
 (((↑i : Int) != (↑i_1 : Int)) = true →
 ((0 : Int) ≤ (↑i : Int) ∧ (↑i : Int) < (↑(7 : Nat) : Int)) ∧
 ((0 : Int) ≤ (↑i_1 : Int) ∧ (↑i_1 : Int) < (↑(7 : Nat) : Int)) ∧
 nat_lit 0 + ((↑i : Int).toNat * (7 : Nat) + (↑i_1 : Int).toNat * (1 : Nat)) + (1 : Nat) ≤ nat_lit 49 ∧
 ∃ (j : Nat),
 j.le (R (topN n)) ∧
 (9 : Nat) - j < (9 : Nat) - i_1 ∧
 IntKind.i64.wrap ((↑i_1 : Int) + (1 : Int)) = (↑j : Int) ∧
 topN n = topN n ∧
 (↑i : Int) = (↑i : Int) ∧
 topN n = topN n ∧
 false = false ∧
 (∀ (o : Nat),
 o < nat_lit 49 →
 (if
 ((nat_lit 0 + ((↑i : Int).toNat * (7 : Nat) + (↑i_1 : Int).toNat * (1 : Nat))).ble o &&
 o.blt (nat_lit 0 + ((↑i : Int).toNat * (7 : Nat) + (↑i_1 : Int).toNat * (1 : Nat)) + (1 : Nat))) =
 true then
 (1099511627776 : Int)
 else tpUp (R (topN n)) (↑i : Int).toNat i_1 o) =
 tpUp (R (topN n)) (↑i : Int).toNat j o) ∧
 (0 : Int) = (0 : Int) ∧ false = false ∧ ∀ (o : Nat), o < nat_lit 49 → (0 : Int) = (0 : Int)) ∧
 (((↑i : Int) != (↑i_1 : Int)) = false →
 ∃ (j : Nat),
 j.le (R (topN n)) ∧
 (9 : Nat) - j < (9 : Nat) - i_1 ∧
 IntKind.i64.wrap ((↑i_1 : Int) + (1 : Int)) = (↑j : Int) ∧
 topN n = topN n ∧
 (↑i : Int) = (↑i : Int) ∧
 topN n = topN n ∧
 false = false ∧
 (∀ (o : Nat), o < nat_lit 49 → tpUp (R (topN n)) (↑i : Int).toNat i_1 o = tpUp (R (topN n)) (↑i : Int).toNat j o) ∧
 (0 : Int) = (0 : Int) ∧ false = false ∧ ∀ (o : Nat), o < nat_lit 49 → (0 : Int) = (0 : Int))) ∧
 (decide ((↑i_1 : Int) ≤ topN n) = false →
 ∃ (j : Nat),
 j.le (R (topN n)) ∧
 (9 : Nat) - j < (9 : Nat) - i ∧
 topN n = topN n ∧
 IntKind.i64.wrap ((↑i : Int) + (1 : Int)) = (↑j : Int) ∧
 topN n = topN n ∧
 false = false ∧
 (∀ (o : Nat), o < nat_lit 49 → tpUp (R (topN n)) (↑i : Int).toNat i_1 o = tpUp (R (topN n)) j (0 : Nat) o) ∧
 (0 : Int) = (0 : Int) ∧ false = false ∧ ∀ (o : Nat), o < nat_lit 49 → (0 : Int) = (0 : Int))) ∧
 (decide ((↑i : Int) ≤ topN n) = false →
 ((0 : Int) ≤ topN n ∧ topN n ≤ (6 : Int)) ∧
 Bd (tpUp (R (topN n)) i (0 : Nat)) ∧
 topN n = topN n ∧
 (clZ (topN n) (false, tpUp (R (topN n)) i (0 : Nat))).fst = false ∧
 ∀ (o : Nat), o < nat_lit 49 → (clZ (topN n) (false, tpUp (R (topN n)) i (0 : Nat))).snd o = topF n o)) (by kernel_rfl) ?_
    simp only [raw0, true_and, and_true, implies_true, Nat.mul_one, Int.toNat_natCast, c7, decide_eq_true_eq, decide_eq_false_iff_not, Nat.zero_add, forall_const, Nat.le_eq, at_iff, bne_iff_ne, bne_eq_false_iff_eq, and_self, and_self_left, Nat.reduceAdd]
    have h0 := topN_le n
    have hR := R_le (topN n)
    have hRn := R_n h0
    have hm : (if 6 < if 0 > n then 0 else n then 6 else if 0 > n then 0 else n) = topN n := by unfold topN; (repeat' split) <;> omega
    refine ⟨⟨0, Nat.zero_le _, hm, rfl, hm, fun o ho => ?_⟩, fun i hi => ⟨fun h1 => ⟨⟨0, Nat.zero_le _, rfl, fun o ho => rfl⟩, fun j hj => ⟨fun h2 => ⟨fun h3 => ⟨by omega, by omega, by omega, j + 1, by omega, by omega, wr _ (by omega), fun o ho => ?_⟩, fun h3 => ⟨j + 1, by omega, by omega, wr _ (by omega), fun o ho => ?_⟩⟩, fun h2 => ⟨i + 1, by omega, by omega, wr _ (by omega), fun o ho => ?_⟩⟩⟩, fun h1 => ?_⟩⟩
    · unfold tpUp; rw [if_neg (by omega)]
    · by_cases h : o = i * 7 + j
      · have h7 := dm7 (k := i) (m := j) (by omega)
        rw [if_pos h]
        unfold tpUp
        rw [if_pos (by omega)]
      · rw [if_neg h]
        unfold tpUp
        exact icg (by omega) rfl rfl
    · unfold tpUp
      exact icg (by omega) rfl rfl
    · unfold tpUp
      exact icg (by omega) rfl rfl
    · have hi2 : i = R (topN n) := by omega
      subst hi2
      have ht := cl_top (n := topN n) (G := tpUp (R (topN n)) (R (topN n)) 0) h0 (fun o ho => by unfold tpUp; exact icg (by omega) rfl rfl)
      have htt : topN (topN n) = topN n := by unfold topN; omega
      have e : topF (topN n) = topF n := by unfold topF; rw [htt]
      rw [e] at ht
      exact ⟨h0, fun o ho => by unfold tpUp; split <;> omega, ht.1, ht.2⟩
  · trivial
def rboundS : FSpec := fun ds _ => match ds with
  | [.i n, .b c, .f f, .i x, .i y, .i b] => some { val := .one (.agg [.c (.int .i64 (.sym (n))), .c (.bool (.sym ((bndZ n x y b (c, f)).1))), .ints .i64 (.lit 49) ((bndZ n x y b (c, f)).2)]), vc := [Good n (c, f), isEndP n x = true, isEndP n y = true, x ≠ y, -4294967296 ≤ b] }
  | _ => none
def rboundC : Con := con [zA, iA, iA, iA] rboundS
theorem rbound_ok : ConOK Try.prog 43 rboundC := by
  refine fn_ob tt_ok mixed Try.func43 rfl (fun _ _ => by kernel_rfl) (A := fun ds => ⟨fun _ => Cons.of [(41, rcloseC)], fun _ => none, fun _ => none⟩) (fun _ _ => (cons_cons rclose_ok cons_nil)) (by kernel_rfl) ?_
  intro ds fr
  unfold rboundS
  split
  · rename_i n c f x y b
    refine kmp (q := Good n (c, f) →
 isEndP n x = true →
 isEndP n y = true →
 x ≠ y →
 (-4294967296 : Int) ≤ b →
 (c = true → n = n ∧ c = (bndZ n x y b (c, f)).fst ∧ ∀ (o : Nat), o < nat_lit 49 → f o = (bndZ n x y b (c, f)).snd o) ∧
 (c = false →
 ((0 : Int) ≤ IntKind.i64.wrap (x + (1 : Int)) ∧ IntKind.i64.wrap (x + (1 : Int)) < (↑(7 : Nat) : Int)) ∧
 ((0 : Int) ≤ IntKind.i64.wrap (y + (1 : Int)) ∧ IntKind.i64.wrap (y + (1 : Int)) < (↑(7 : Nat) : Int)) ∧
 nat_lit 0 + ((IntKind.i64.wrap (x + (1 : Int))).toNat * (7 : Nat) + (IntKind.i64.wrap (y + (1 : Int))).toNat * (1 : Nat)) < nat_lit 49 ∧
 ((0 : Int) ≤ IntKind.i64.wrap (x + (1 : Int)) ∧ IntKind.i64.wrap (x + (1 : Int)) < (↑(7 : Nat) : Int)) ∧
 ((0 : Int) ≤ IntKind.i64.wrap (y + (1 : Int)) ∧ IntKind.i64.wrap (y + (1 : Int)) < (↑(7 : Nat) : Int)) ∧
 nat_lit 0 + ((IntKind.i64.wrap (x + (1 : Int))).toNat * (7 : Nat) + (IntKind.i64.wrap (y + (1 : Int))).toNat * (1 : Nat)) + (1 : Nat) ≤
 nat_lit 49 ∧
 ((0 : Int) ≤ n ∧ n ≤ (6 : Int)) ∧
 (Bd fun (j : Nat) =>
 if
 ((nat_lit 0 +
 ((IntKind.i64.wrap (x + (1 : Int))).toNat * (7 : Nat) + (IntKind.i64.wrap (y + (1 : Int))).toNat * (1 : Nat))).ble
 j &&
 j.blt
 (nat_lit 0 +
 ((IntKind.i64.wrap (x + (1 : Int))).toNat * (7 : Nat) + (IntKind.i64.wrap (y + (1 : Int))).toNat * (1 : Nat)) +
 (1 : Nat))) =
 true then
 if
 b <
 f
 (nat_lit 0 +
 ((IntKind.i64.wrap (x + (1 : Int))).toNat * (7 : Nat) + (IntKind.i64.wrap (y + (1 : Int))).toNat * (1 : Nat))) then
 b
 else
 f
 (nat_lit 0 +
 ((IntKind.i64.wrap (x + (1 : Int))).toNat * (7 : Nat) + (IntKind.i64.wrap (y + (1 : Int))).toNat * (1 : Nat)))
 else f j) ∧
 n = n ∧
 (clZ n
 (c, fun (j : Nat) =>
 if
 ((nat_lit 0 +
 ((IntKind.i64.wrap (x + (1 : Int))).toNat * (7 : Nat) +
 (IntKind.i64.wrap (y + (1 : Int))).toNat * (1 : Nat))).ble
 j &&
 j.blt
 (nat_lit 0 +
 ((IntKind.i64.wrap (x + (1 : Int))).toNat * (7 : Nat) +
 (IntKind.i64.wrap (y + (1 : Int))).toNat * (1 : Nat)) +
 (1 : Nat))) =
 true then
 if
 b <
 f
 (nat_lit 0 +
 ((IntKind.i64.wrap (x + (1 : Int))).toNat * (7 : Nat) +
 (IntKind.i64.wrap (y + (1 : Int))).toNat * (1 : Nat))) then
 b
 else
 f
 (nat_lit 0 +
 ((IntKind.i64.wrap (x + (1 : Int))).toNat * (7 : Nat) + (IntKind.i64.wrap (y + (1 : Int))).toNat * (1 : Nat)))
 else f j)).fst =
 (bndZ n x y b (c, f)).fst ∧
 ∀ (o : Nat),
 o < nat_lit 49 →
 (clZ n
 (c, fun (j : Nat) =>
 if
 ((nat_lit 0 +
 ((IntKind.i64.wrap (x + (1 : Int))).toNat * (7 : Nat) +
 (IntKind.i64.wrap (y + (1 : Int))).toNat * (1 : Nat))).ble
 j &&
 j.blt
 (nat_lit 0 +
 ((IntKind.i64.wrap (x + (1 : Int))).toNat * (7 : Nat) +
 (IntKind.i64.wrap (y + (1 : Int))).toNat * (1 : Nat)) +
 (1 : Nat))) =
 true then
 if
 b <
 f
 (nat_lit 0 +
 ((IntKind.i64.wrap (x + (1 : Int))).toNat * (7 : Nat) +
 (IntKind.i64.wrap (y + (1 : Int))).toNat * (1 : Nat))) then
 b
 else
 f
 (nat_lit 0 +
 ((IntKind.i64.wrap (x + (1 : Int))).toNat * (7 : Nat) +
 (IntKind.i64.wrap (y + (1 : Int))).toNat * (1 : Nat)))
 else f j)).snd
 o =
 (bndZ n x y b (c, f)).snd o)) (by kernel_rfl) ?_
    simp only [raw0, true_and, and_true, implies_true, Nat.mul_one, Int.toNat_natCast, c7, decide_eq_true_eq, decide_eq_false_iff_not, Nat.zero_add, forall_const, Nat.le_eq, at_iff, bne_iff_ne, bne_eq_false_iff_eq, and_self, and_self_left, Nat.reduceAdd]
    intro hG hx hy hxy hb
    obtain ⟨ha, hax⟩ := isEnd_R hx
    obtain ⟨hc, hcy⟩ := isEnd_R hy
    have hR := R_le n
    have ex := isEndP_lt hx
    have ey := isEndP_lt hy
    rw [wr (x + 1) (by omega), wr (y + 1) (by omega)]
    refine ⟨fun h => ?_, fun h => ?_⟩
    · rw [bnd_none h]; exact ⟨rfl, fun _ _ => rfl⟩
    · subst h
      have hs := hG.sm
      have hmin : ∀ j, (if j = (x + 1).toNat * 7 + (y + 1).toNat then if b < f ((x + 1).toNat * 7 + (y + 1).toNat) then b else f ((x + 1).toNat * 7 + (y + 1).toNat) else f j) = if j = (x + 1).toNat * 7 + (y + 1).toNat then min (f j) b else f j := fun j => by
        by_cases e : j = (x + 1).toNat * 7 + (y + 1).toNat
        · rw [if_pos e, if_pos e, e]; split <;> omega
        · rw [if_neg e, if_neg e]
      have hB : Bd (fun j => if j = (x + 1).toNat * 7 + (y + 1).toNat then if b < f ((x + 1).toNat * 7 + (y + 1).toNat) then b else f ((x + 1).toNat * 7 + (y + 1).toNat) else f j) := fun o ho => by
        have := hs o ho
        dsimp only at this ⊢
        rw [hmin]
        split <;> omega
      have ht := cl_bnd (G := fun j => if j = (x + 1).toNat * 7 + (y + 1).toNat then if b < f ((x + 1).toNat * 7 + (y + 1).toNat) then b else f ((x + 1).toNat * 7 + (y + 1).toNat) else f j) hG hx hy hxy hb (fun o ho => hmin o)
      exact ⟨by omega, by omega, by omega, by omega, by omega, by omega, hG.n0, hB, ht.1, ht.2⟩
  · trivial
def rforgetS : FSpec := fun ds _ => match ds with
  | [.i n, .b c, .f f, .i x] => some { val := .one (.agg [.c (.int .i64 (.sym (n))), .c (.bool (.sym ((fgZ n x (c, f)).1))), .ints .i64 (.lit 49) ((fgZ n x (c, f)).2)]), vc := [Good n (c, f), isVarP n x = true] }
  | _ => none
def rforgetC : Con := con [zA, iA] rforgetS
theorem rforget_ok : ConOK Try.prog 64 rforgetC := by
  refine fn_ob tt_ok mixed Try.func64 rfl (fun _ _ => by kernel_rfl) (A := fun ds => ⟨fun _ => Cons.of [(41, rcloseC)], fun k => match k, ds with | 4, [.i n, .b c, .f f, .i x] => some { ι := Nat, pre := fun _ i => i ≤ R n, μ := fun i => 9 - i, st := fun s i => famR s [(5, .one (.sc (.int .i64 (.sym ((i : Nat))))))] [1, 2, 4] [(idOf s 2, .own 32 (zs (.sym n) (.sym c) (rfTo f (x + 1).toNat i)))] [4] } | _, _ => none, fun _ => none⟩) (fun _ _ => (cons_cons rclose_ok cons_nil)) (by kernel_rfl) ?_
  intro ds fr
  unfold rforgetS
  split
  · rename_i n c f x
    refine kmp (q := Good n (c, f) →
 isVarP n x = true →
 (c = true → n = n ∧ c = (fgZ n x (c, f)).fst ∧ ∀ (o : Nat), o < nat_lit 49 → f o = (fgZ n x (c, f)).snd o) ∧
 (c = false →
 (∃ (i : Nat),
 i.le (R n) ∧
 (0 : Int) = (↑i : Int) ∧
 x = x ∧
 n = n ∧
 c = c ∧
 (∀ (o : Nat), o < nat_lit 49 → f o = rfTo f (x + (1 : Int)).toNat i o) ∧
 (0 : Int) = (0 : Int) ∧ false = false ∧ ∀ (o : Nat), o < nat_lit 49 → (0 : Int) = (0 : Int)) ∧
 ∀ (i : Nat),
 i.le (R n) →
 (decide ((↑i : Int) ≤ n) = true →
 (((↑i : Int) != IntKind.i64.wrap (x + (1 : Int))) = true →
 ((0 : Int) ≤ (↑i : Int) ∧ (↑i : Int) < (↑(7 : Nat) : Int)) ∧
 ((0 : Int) ≤ IntKind.i64.wrap (x + (1 : Int)) ∧ IntKind.i64.wrap (x + (1 : Int)) < (↑(7 : Nat) : Int)) ∧
 nat_lit 0 + ((↑i : Int).toNat * (7 : Nat) + (IntKind.i64.wrap (x + (1 : Int))).toNat * (1 : Nat)) + (1 : Nat) ≤ nat_lit 49 ∧
 ((0 : Int) ≤ IntKind.i64.wrap (x + (1 : Int)) ∧ IntKind.i64.wrap (x + (1 : Int)) < (↑(7 : Nat) : Int)) ∧
 ((0 : Int) ≤ (↑i : Int) ∧ (↑i : Int) < (↑(7 : Nat) : Int)) ∧
 nat_lit 0 + ((IntKind.i64.wrap (x + (1 : Int))).toNat * (7 : Nat) + (↑i : Int).toNat * (1 : Nat)) + (1 : Nat) ≤ nat_lit 49 ∧
 ∃ (j : Nat),
 j.le (R n) ∧
 (9 : Nat) - j < (9 : Nat) - i ∧
 IntKind.i64.wrap ((↑i : Int) + (1 : Int)) = (↑j : Int) ∧
 x = x ∧
 n = n ∧
 c = c ∧
 (∀ (o : Nat),
 o < nat_lit 49 →
 (if
 ((nat_lit 0 +
 ((IntKind.i64.wrap (x + (1 : Int))).toNat * (7 : Nat) + (↑i : Int).toNat * (1 : Nat))).ble
 o &&
 o.blt
 (nat_lit 0 +
 ((IntKind.i64.wrap (x + (1 : Int))).toNat * (7 : Nat) + (↑i : Int).toNat * (1 : Nat)) +
 (1 : Nat))) =
 true then
 (1099511627776 : Int)
 else
 if
 ((nat_lit 0 +
 ((↑i : Int).toNat * (7 : Nat) +
 (IntKind.i64.wrap (x + (1 : Int))).toNat * (1 : Nat))).ble
 o &&
 o.blt
 (nat_lit 0 +
 ((↑i : Int).toNat * (7 : Nat) + (IntKind.i64.wrap (x + (1 : Int))).toNat * (1 : Nat)) +
 (1 : Nat))) =
 true then
 (1099511627776 : Int)
 else rfTo f (x + (1 : Int)).toNat i o) =
 rfTo f (x + (1 : Int)).toNat j o) ∧
 (0 : Int) = (0 : Int) ∧ false = false ∧ ∀ (o : Nat), o < nat_lit 49 → (0 : Int) = (0 : Int)) ∧
 (((↑i : Int) != IntKind.i64.wrap (x + (1 : Int))) = false →
 ∃ (j : Nat),
 j.le (R n) ∧
 (9 : Nat) - j < (9 : Nat) - i ∧
 IntKind.i64.wrap ((↑i : Int) + (1 : Int)) = (↑j : Int) ∧
 x = x ∧
 n = n ∧
 c = c ∧
 (∀ (o : Nat), o < nat_lit 49 → rfTo f (x + (1 : Int)).toNat i o = rfTo f (x + (1 : Int)).toNat j o) ∧
 (0 : Int) = (0 : Int) ∧ false = false ∧ ∀ (o : Nat), o < nat_lit 49 → (0 : Int) = (0 : Int))) ∧
 (decide ((↑i : Int) ≤ n) = false →
 ((0 : Int) ≤ n ∧ n ≤ (6 : Int)) ∧
 Bd (rfTo f (x + (1 : Int)).toNat i) ∧
 n = n ∧
 (clZ n (c, rfTo f (x + (1 : Int)).toNat i)).fst = (fgZ n x (c, f)).fst ∧
 ∀ (o : Nat), o < nat_lit 49 → (clZ n (c, rfTo f (x + (1 : Int)).toNat i)).snd o = (fgZ n x (c, f)).snd o))) (by kernel_rfl) ?_
    simp only [raw0, true_and, and_true, implies_true, Nat.mul_one, Int.toNat_natCast, c7, decide_eq_true_eq, decide_eq_false_iff_not, Nat.zero_add, forall_const, Nat.le_eq, at_iff, bne_iff_ne, bne_eq_false_iff_eq, and_self, and_self_left, Nat.reduceAdd]
    intro hG hx
    obtain ⟨ha, hax, ha1⟩ := isVar_R hx
    have hR := R_le n
    have hRn := R_n hG.n0
    have ex := isVarP_lt hx
    have hs := hG.sm
    rw [wr (x + 1) (by omega)]
    generalize hae : (x + 1).toNat = a at *
    refine ⟨fun h => ?_, fun h => ⟨⟨0, Nat.zero_le _, rfl, fun o ho => ?_⟩, fun i hi => ⟨fun h1 => ⟨fun h2 => ⟨by omega, by omega, by omega, by omega, by omega, by omega, i + 1, by omega, by omega, wr _ (by omega), fun o ho => ?_⟩, fun h2 => ⟨i + 1, by omega, by omega, wr _ (by omega), fun o ho => ?_⟩⟩, fun h1 => ?_⟩⟩⟩
    · subst h
      refine ⟨rfl, fun o ho => ?_⟩
      show _ = forgetF n true f x o
      unfold forgetF; rw [if_pos (by simp)]
    · unfold rfTo; rw [if_neg (by omega)]
    · by_cases h3 : o = a * 7 + i
      · rw [if_pos h3]; unfold rfTo; rw [if_pos (by omega)]
      · by_cases h4 : o = i * 7 + a
        · rw [if_neg h3, if_pos h4]; unfold rfTo; rw [if_pos (by omega)]
        · rw [if_neg h3, if_neg h4]; unfold rfTo; exact icg (by omega) rfl rfl
    · unfold rfTo; exact icg (by omega) rfl rfl
    · subst h
      have hi2 : i = R n := by omega
      subst hi2
      have ht := cl_fg (G := rfTo f a (R n)) hG hx (fun o ho => by rw [hae]; unfold rfTo; exact icg (by omega) rfl rfl)
      exact ⟨hG.n0, fun o ho => by have := hs o ho; dsimp only at this; unfold rfTo; split <;> omega, ht.1, ht.2⟩
  · trivial
def rcopyS : FSpec := fun ds _ => match ds with
  | [.i n, .b c, .f f, .i x, .i y, .i b] => some { val := .one (.agg [.c (.int .i64 (.sym (n))), .c (.bool (.sym ((copyZ n x y b (c, f)).1))), .ints .i64 (.lit 49) ((copyZ n x y b (c, f)).2)]), vc := [Good n (c, f), isVarP n x = true, isEndP n y = true, -2147483648 ≤ b ∧ b ≤ 2147483647] }
  | _ => none
def rcopyC : Con := con [zA, iA, iA, iA] rcopyS
theorem rcopy_ok : ConOK Try.prog 48 rcopyC := by
  refine fn_ob tt_ok mixed Try.func48 rfl (fun _ _ => by kernel_rfl) (A := fun ds => ⟨fun _ => Cons.of [(41, rcloseC), (64, rforgetC)], fun k => match k, ds with | 5, [.i n, .b c, .f f, .i x, .i y, .i b] => some { ι := Nat, pre := fun _ i => i ≤ R n, μ := fun i => 9 - i, st := fun s i => famR s [(9, .one (.sc (.int .i64 (.sym ((i : Nat))))))] [1, 2, 3, 4, 8] [(idOf s 4, .own 32 (zs (.sym n) (.sym c) (shTo f (x + 1).toNat b i)))] [8] } | _, _ => none, fun _ => none⟩) (fun _ _ => (cons_cons rclose_ok (cons_cons rforget_ok cons_nil))) (by kernel_rfl) ?_
  intro ds fr
  unfold rcopyS
  split
  · rename_i n c f x y b
    refine kmp (q := Good n (c, f) →
 isVarP n x = true →
 isEndP n y = true →
 (-2147483648 : Int) ≤ b ∧ b ≤ (2147483647 : Int) →
 (c = true → n = n ∧ c = (copyZ n x y b (c, f)).fst ∧ ∀ (o : Nat), o < nat_lit 49 → f o = (copyZ n x y b (c, f)).snd o) ∧
 (c = false →
 ((x == y) = true →
 (∃ (i : Nat),
 i.le (R n) ∧
 (0 : Int) = (↑i : Int) ∧
 x = x ∧
 y = y ∧
 b = b ∧
 n = n ∧
 c = c ∧
 (∀ (o : Nat), o < nat_lit 49 → f o = shTo f (x + (1 : Int)).toNat b i o) ∧
 (0 : Int) = (0 : Int) ∧ false = false ∧ ∀ (o : Nat), o < nat_lit 49 → (0 : Int) = (0 : Int)) ∧
 ∀ (i : Nat),
 i.le (R n) →
 (decide ((↑i : Int) ≤ n) = true →
 (((↑i : Int) != IntKind.i64.wrap (x + (1 : Int))) = true →
 ((0 : Int) ≤ IntKind.i64.wrap (x + (1 : Int)) ∧ IntKind.i64.wrap (x + (1 : Int)) < (↑(7 : Nat) : Int)) ∧
 ((0 : Int) ≤ (↑i : Int) ∧ (↑i : Int) < (↑(7 : Nat) : Int)) ∧
 nat_lit 0 + ((IntKind.i64.wrap (x + (1 : Int))).toNat * (7 : Nat) + (↑i : Int).toNat * (1 : Nat)) < nat_lit 49 ∧
 ((0 : Int) ≤ IntKind.i64.wrap (x + (1 : Int)) ∧ IntKind.i64.wrap (x + (1 : Int)) < (↑(7 : Nat) : Int)) ∧
 ((0 : Int) ≤ (↑i : Int) ∧ (↑i : Int) < (↑(7 : Nat) : Int)) ∧
 nat_lit 0 + ((IntKind.i64.wrap (x + (1 : Int))).toNat * (7 : Nat) + (↑i : Int).toNat * (1 : Nat)) + (1 : Nat) ≤
 nat_lit 49 ∧
 ((0 : Int) ≤ (↑i : Int) ∧ (↑i : Int) < (↑(7 : Nat) : Int)) ∧
 ((0 : Int) ≤ IntKind.i64.wrap (x + (1 : Int)) ∧ IntKind.i64.wrap (x + (1 : Int)) < (↑(7 : Nat) : Int)) ∧
 nat_lit 0 + ((↑i : Int).toNat * (7 : Nat) + (IntKind.i64.wrap (x + (1 : Int))).toNat * (1 : Nat)) < nat_lit 49 ∧
 ((0 : Int) ≤ (↑i : Int) ∧ (↑i : Int) < (↑(7 : Nat) : Int)) ∧
 ((0 : Int) ≤ IntKind.i64.wrap (x + (1 : Int)) ∧ IntKind.i64.wrap (x + (1 : Int)) < (↑(7 : Nat) : Int)) ∧
 nat_lit 0 + ((↑i : Int).toNat * (7 : Nat) + (IntKind.i64.wrap (x + (1 : Int))).toNat * (1 : Nat)) +
 (1 : Nat) ≤
 nat_lit 49 ∧
 ∃ (j : Nat),
 j.le (R n) ∧
 (9 : Nat) - j < (9 : Nat) - i ∧
 IntKind.i64.wrap ((↑i : Int) + (1 : Int)) = (↑j : Int) ∧
 x = x ∧
 y = y ∧
 b = b ∧
 n = n ∧
 c = c ∧
 (∀ (o : Nat),
 o < nat_lit 49 →
 (if
 ((nat_lit 0 +
 ((↑i : Int).toNat * (7 : Nat) +
 (IntKind.i64.wrap (x + (1 : Int))).toNat * (1 : Nat))).ble
 o &&
 o.blt
 (nat_lit 0 +
 ((↑i : Int).toNat * (7 : Nat) +
 (IntKind.i64.wrap (x + (1 : Int))).toNat * (1 : Nat)) +
 (1 : Nat))) =
 true then
 IntKind.i64.wrap
 ((if
 ((nat_lit 0 +
 ((IntKind.i64.wrap (x + (1 : Int))).toNat * (7 : Nat) +
 (↑i : Int).toNat * (1 : Nat))).ble
 (nat_lit 0 +
 ((↑i : Int).toNat * (7 : Nat) +
 (IntKind.i64.wrap (x + (1 : Int))).toNat * (1 : Nat))) &&
 (nat_lit 0 +
 ((↑i : Int).toNat * (7 : Nat) +
 (IntKind.i64.wrap (x + (1 : Int))).toNat * (1 : Nat))).blt
 (nat_lit 0 +
 ((IntKind.i64.wrap (x + (1 : Int))).toNat * (7 : Nat) +
 (↑i : Int).toNat * (1 : Nat)) +
 (1 : Nat))) =
 true then
 IntKind.i64.wrap
 (shTo f (x + (1 : Int)).toNat b i
 (nat_lit 0 +
 ((IntKind.i64.wrap (x + (1 : Int))).toNat * (7 : Nat) +
 (↑i : Int).toNat * (1 : Nat))) +
 b)
 else
 shTo f (x + (1 : Int)).toNat b i
 (nat_lit 0 +
 ((↑i : Int).toNat * (7 : Nat) +
 (IntKind.i64.wrap (x + (1 : Int))).toNat * (1 : Nat)))) -
 b)
 else
 if
 ((nat_lit 0 +
 ((IntKind.i64.wrap (x + (1 : Int))).toNat * (7 : Nat) +
 (↑i : Int).toNat * (1 : Nat))).ble
 o &&
 o.blt
 (nat_lit 0 +
 ((IntKind.i64.wrap (x + (1 : Int))).toNat * (7 : Nat) +
 (↑i : Int).toNat * (1 : Nat)) +
 (1 : Nat))) =
 true then
 IntKind.i64.wrap
 (shTo f (x + (1 : Int)).toNat b i
 (nat_lit 0 +
 ((IntKind.i64.wrap (x + (1 : Int))).toNat * (7 : Nat) +
 (↑i : Int).toNat * (1 : Nat))) +
 b)
 else shTo f (x + (1 : Int)).toNat b i o) =
 shTo f (x + (1 : Int)).toNat b j o) ∧
 (0 : Int) = (0 : Int) ∧
 false = false ∧ ∀ (o : Nat), o < nat_lit 49 → (0 : Int) = (0 : Int)) ∧
 (((↑i : Int) != IntKind.i64.wrap (x + (1 : Int))) = false →
 ∃ (j : Nat),
 j.le (R n) ∧
 (9 : Nat) - j < (9 : Nat) - i ∧
 IntKind.i64.wrap ((↑i : Int) + (1 : Int)) = (↑j : Int) ∧
 x = x ∧
 y = y ∧
 b = b ∧
 n = n ∧
 c = c ∧
 (∀ (o : Nat), o < nat_lit 49 → shTo f (x + (1 : Int)).toNat b i o = shTo f (x + (1 : Int)).toNat b j o) ∧
 (0 : Int) = (0 : Int) ∧ false = false ∧ ∀ (o : Nat), o < nat_lit 49 → (0 : Int) = (0 : Int))) ∧
 (decide ((↑i : Int) ≤ n) = false →
 ((0 : Int) ≤ n ∧ n ≤ (6 : Int)) ∧
 Bd (shTo f (x + (1 : Int)).toNat b i) ∧
 n = n ∧
 (clZ n (c, shTo f (x + (1 : Int)).toNat b i)).fst = (copyZ n x y b (c, f)).fst ∧
 ∀ (o : Nat), o < nat_lit 49 → (clZ n (c, shTo f (x + (1 : Int)).toNat b i)).snd o = (copyZ n x y b (c, f)).snd o)) ∧
 ((x == y) = false →
 Good n (c, f) ∧
 isVarP n x = true ∧
 ((0 : Int) ≤ IntKind.i64.wrap (x + (1 : Int)) ∧ IntKind.i64.wrap (x + (1 : Int)) < (↑(7 : Nat) : Int)) ∧
 ((0 : Int) ≤ IntKind.i64.wrap (y + (1 : Int)) ∧ IntKind.i64.wrap (y + (1 : Int)) < (↑(7 : Nat) : Int)) ∧
 nat_lit 0 + ((IntKind.i64.wrap (x + (1 : Int))).toNat * (7 : Nat) + (IntKind.i64.wrap (y + (1 : Int))).toNat * (1 : Nat)) + (1 : Nat) ≤
 nat_lit 49 ∧
 ((0 : Int) ≤ IntKind.i64.wrap (y + (1 : Int)) ∧ IntKind.i64.wrap (y + (1 : Int)) < (↑(7 : Nat) : Int)) ∧
 ((0 : Int) ≤ IntKind.i64.wrap (x + (1 : Int)) ∧ IntKind.i64.wrap (x + (1 : Int)) < (↑(7 : Nat) : Int)) ∧
 nat_lit 0 + ((IntKind.i64.wrap (y + (1 : Int))).toNat * (7 : Nat) + (IntKind.i64.wrap (x + (1 : Int))).toNat * (1 : Nat)) +
 (1 : Nat) ≤
 nat_lit 49 ∧
 ((0 : Int) ≤ n ∧ n ≤ (6 : Int)) ∧
 (Bd fun (j : Nat) =>
 if
 ((nat_lit 0 +
 ((IntKind.i64.wrap (y + (1 : Int))).toNat * (7 : Nat) +
 (IntKind.i64.wrap (x + (1 : Int))).toNat * (1 : Nat))).ble
 j &&
 j.blt
 (nat_lit 0 +
 ((IntKind.i64.wrap (y + (1 : Int))).toNat * (7 : Nat) +
 (IntKind.i64.wrap (x + (1 : Int))).toNat * (1 : Nat)) +
 (1 : Nat))) =
 true then
 IntKind.i64.wrap ((0 : Int) - b)
 else
 if
 ((nat_lit 0 +
 ((IntKind.i64.wrap (x + (1 : Int))).toNat * (7 : Nat) +
 (IntKind.i64.wrap (y + (1 : Int))).toNat * (1 : Nat))).ble
 j &&
 j.blt
 (nat_lit 0 +
 ((IntKind.i64.wrap (x + (1 : Int))).toNat * (7 : Nat) +
 (IntKind.i64.wrap (y + (1 : Int))).toNat * (1 : Nat)) +
 (1 : Nat))) =
 true then
 b
 else (fgZ n x (c, f)).snd j) ∧
 n = n ∧
 (clZ n
 ((fgZ n x (c, f)).fst, fun (j : Nat) =>
 if
 ((nat_lit 0 +
 ((IntKind.i64.wrap (y + (1 : Int))).toNat * (7 : Nat) +
 (IntKind.i64.wrap (x + (1 : Int))).toNat * (1 : Nat))).ble
 j &&
 j.blt
 (nat_lit 0 +
 ((IntKind.i64.wrap (y + (1 : Int))).toNat * (7 : Nat) +
 (IntKind.i64.wrap (x + (1 : Int))).toNat * (1 : Nat)) +
 (1 : Nat))) =
 true then
 IntKind.i64.wrap ((0 : Int) - b)
 else
 if
 ((nat_lit 0 +
 ((IntKind.i64.wrap (x + (1 : Int))).toNat * (7 : Nat) +
 (IntKind.i64.wrap (y + (1 : Int))).toNat * (1 : Nat))).ble
 j &&
 j.blt
 (nat_lit 0 +
 ((IntKind.i64.wrap (x + (1 : Int))).toNat * (7 : Nat) +
 (IntKind.i64.wrap (y + (1 : Int))).toNat * (1 : Nat)) +
 (1 : Nat))) =
 true then
 b
 else (fgZ n x (c, f)).snd j)).fst =
 (copyZ n x y b (c, f)).fst ∧
 ∀ (o : Nat),
 o < nat_lit 49 →
 (clZ n
 ((fgZ n x (c, f)).fst, fun (j : Nat) =>
 if
 ((nat_lit 0 +
 ((IntKind.i64.wrap (y + (1 : Int))).toNat * (7 : Nat) +
 (IntKind.i64.wrap (x + (1 : Int))).toNat * (1 : Nat))).ble
 j &&
 j.blt
 (nat_lit 0 +
 ((IntKind.i64.wrap (y + (1 : Int))).toNat * (7 : Nat) +
 (IntKind.i64.wrap (x + (1 : Int))).toNat * (1 : Nat)) +
 (1 : Nat))) =
 true then
 IntKind.i64.wrap ((0 : Int) - b)
 else
 if
 ((nat_lit 0 +
 ((IntKind.i64.wrap (x + (1 : Int))).toNat * (7 : Nat) +
 (IntKind.i64.wrap (y + (1 : Int))).toNat * (1 : Nat))).ble
 j &&
 j.blt
 (nat_lit 0 +
 ((IntKind.i64.wrap (x + (1 : Int))).toNat * (7 : Nat) +
 (IntKind.i64.wrap (y + (1 : Int))).toNat * (1 : Nat)) +
 (1 : Nat))) =
 true then
 b
 else (fgZ n x (c, f)).snd j)).snd
 o =
 (copyZ n x y b (c, f)).snd o))) (by kernel_rfl) ?_
    simp only [raw0, true_and, and_true, implies_true, Nat.mul_one, Int.toNat_natCast, c7, decide_eq_true_eq, decide_eq_false_iff_not, Nat.zero_add, forall_const, Nat.le_eq, at_iff, bne_iff_ne, bne_eq_false_iff_eq, and_self, and_self_left, Nat.reduceAdd]
    intro hG hx hy hb
    obtain ⟨ha, hax, ha1⟩ := isVar_R hx
    obtain ⟨hc, hcy⟩ := isEnd_R hy
    have hR := R_le n
    have hRn := R_n hG.n0
    have ex := isVarP_lt hx
    have ey := isEndP_lt hy
    have hs := hG.sm
    dsimp only at hs
    have gs := (good_fg hG x).sm
    rw [wr (x + 1) (by omega), wr (y + 1) (by omega), wr (0 - b) (by omega)]
    refine ⟨fun h => ?_, fun h => ⟨fun h0 => ?_, fun h0 => ?_⟩⟩
    · subst h
      have e : copyZ n x y b (true, f) = (true, f) := if_pos (by simp)
      rw [e]; exact ⟨rfl, fun _ _ => rfl⟩
    · subst h
      obtain rfl : x = y := by simpa using h0
      generalize hae : (x + 1).toNat = a at *
      refine ⟨⟨0, Nat.zero_le _, rfl, fun o ho => ?_⟩, fun i hi => ⟨fun h1 => ⟨fun h2 => ⟨by omega, by omega, by omega, by omega, by omega, by omega, by omega, by omega, by omega, by omega, by omega, by omega, i + 1, by omega, by omega, wr _ (by omega), fun o ho => ?_⟩, fun h2 => ⟨i + 1, by omega, by omega, wr _ (by omega), fun o ho => ?_⟩⟩, fun h1 => ?_⟩⟩
      · unfold shTo; rw [if_neg (by omega), if_neg (by omega)]
      · have d1 := dm7 (k := a) (m := i) (by omega)
        have d2 := dm7 (k := i) (m := a) (by omega)
        have e1 : shTo f a b i (a * 7 + i) = f (a * 7 + i) := by unfold shTo; rw [d1.1, d1.2, if_neg (by omega), if_neg (by omega)]
        have e2 : shTo f a b i (i * 7 + a) = f (i * 7 + a) := by unfold shTo; rw [d2.1, d2.2, if_neg (by omega), if_neg (by omega)]
        have q1 := hs (a * 7 + i) (by omega)
        have q2 := hs (i * 7 + a) (by omega)
        rw [if_neg (show ¬ i * 7 + a = a * 7 + i by omega), e1, e2, wr (f (i * 7 + a) - b) (by omega), wr (f (a * 7 + i) + b) (by omega)]
        by_cases h3 : o = i * 7 + a
        · rw [if_pos h3, h3]; unfold shTo; rw [d2.1, d2.2, if_neg (by omega), if_pos (by omega)]
        · by_cases h4 : o = a * 7 + i
          · rw [if_neg h3, if_pos h4, h4]; unfold shTo; rw [d1.1, d1.2, if_pos (by omega)]
          · rw [if_neg h3, if_neg h4]; unfold shTo; exact icg (by omega) rfl (icg (by omega) rfl rfl)
      · unfold shTo; exact icg (by omega) rfl (icg (by omega) rfl rfl)
      · have hi2 : i = R n := by omega
        subst hi2
        have ht := cl_sh (G := shTo f a b (R n)) (q := b) hG hx hb (fun o ho => by rw [hae])
        exact ⟨hG.n0, fun o ho => by have := hs o ho; unfold shTo; (repeat' split) <;> omega, ht.1, ht.2⟩
    · subst h
      have hxy : x ≠ y := by simpa using h0
      have ht := cl_cp (q := b) (G := fun j => if j = (y + 1).toNat * 7 + (x + 1).toNat then 0 - b else if j = (x + 1).toNat * 7 + (y + 1).toNat then b else (fgZ n x (false, f)).2 j) hG hx hy hxy hb (fun o ho => by
        by_cases h1 : o = (x + 1).toNat * 7 + (y + 1).toNat
        · rw [if_neg (by omega), if_pos h1, if_pos h1]
        · rw [if_neg h1, if_neg h1])
      refine ⟨hG, hx, by omega, by omega, by omega, by omega, by omega, by omega, hG.n0, fun o ho => ?_, ht.1, ht.2⟩
      have := gs o ho
      show -35184372088832 ≤ (if o = (y + 1).toNat * 7 + (x + 1).toNat then 0 - b else if o = (x + 1).toNat * 7 + (y + 1).toNat then b else (fgZ n x (false, f)).2 o) ∧ (if o = (y + 1).toNat * 7 + (x + 1).toNat then 0 - b else if o = (x + 1).toNat * 7 + (y + 1).toNat then b else (fgZ n x (false, f)).2 o) ≤ 2199023255552
      (repeat' split) <;> omega
  · trivial
end Go.Proofs.Ytefdfggkhnahiaa.Sx.Z
