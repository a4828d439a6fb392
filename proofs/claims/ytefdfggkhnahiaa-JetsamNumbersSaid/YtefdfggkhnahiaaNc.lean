/-
  num.Has, num.Right; the references' calls.
-/
import Derived.Test.YtefdfggkhnahiaaNb
namespace Go.Proofs.Ytefdfggkhnahiaa.Sx.Z
open Go.RowKit
def hasJ (I v : D) (j : Nat) : Bool := decide ((I.el j 0).toI ≤ (v.el j 0).toI) && decide ((v.el j 0).toI ≤ (I.el j 1).toI)
def allJ (p : Nat → Bool) (m : Nat) : Bool := (List.range m).all p
theorem allJ_iff {p : Nat → Bool} {m : Nat} : allJ p m = true ↔ ∀ j, j < m → p j = true := by
  unfold allJ
  rw [List.all_eq_true]
  exact ⟨fun h j hj => h j (List.mem_range.2 hj), fun h j hj => h j (List.mem_range.1 hj)⟩
theorem allJ_no {p : Nat → Bool} {m j : Nat} (hj : j < m) (h : p j = false) : allJ p m = false := by
  cases e : allJ p m with
  | false => rfl
  | true => have := allJ_iff.1 e j hj; rw [h] at this; cases this
def nhasP (c : Bool) (I : D) (n : Int) (e : Bool) (f : Nat → Int) (v : D) : Bool := if (c || (v.len : Int) != I.len) = true then false else allJ (hasJ I v) I.len && hasP n e f v.len (ig v)
def rightJ (I : D) (n : Int) (e : Bool) (f : Nat → Int) (j : Nat) : Bool := ((I.el j 0).toI == itvLo n e f j) && ((I.el j 1).toI == itvHi n e f j)
def nrightP (c : Bool) (I : D) (n : Int) (e : Bool) (f : Nat → Int) : Bool := if (!rightP n e f || (e != c) || n != (I.len : Int)) = true then false else allJ (rightJ I n e f) I.len
def normLo (a b : Int) : Int := if a > b then 1 else a
def normHi (a b : Int) : Int := if a > b then 0 else b
def bend (a : Int) : Int := IntKind.i64.wrap (IntKind.i32.wrap a)
theorem bend_in (a : Int) : -2147483648 ≤ bend a ∧ bend a ≤ 2147483647 := by
  unfold bend
  have : -2147483648 ≤ IntKind.i32.wrap a ∧ IntKind.i32.wrap a ≤ 2147483647 := by
    rw [IntKind.wrap_i32]; omega
  rw [wr _ (by omega)]
  exact this
theorem of_norm {a b : Int} (ha : -2147483648 ≤ a ∧ a ≤ 2147483647) (hb : -2147483648 ≤ b ∧ b ≤ 2147483647) : ofLo a b = normLo a b ∧ ofHi a b = normHi a b := by
  unfold ofLo ofHi normLo normHi
  (repeat' split) <;> omega
theorem norm_in {a b : Int} (ha : -2147483648 ≤ a ∧ a ≤ 2147483647) (hb : -2147483648 ≤ b ∧ b ≤ 2147483647) : -2147483648 ≤ normLo a b ∧ normLo a b ≤ 2147483647 ∧ -2147483648 ≤ normHi a b ∧ normHi a b ≤ 2147483647 := by
  unfold normLo normHi
  (repeat' split) <;> omega
/-- Of nothing that a variable may be nothing is left. -/
theorem met_none {n x : Int} {z : Zs} (h : Good n z) (hx : isVarP n x = true) {lo hi : Int} (hl : lo > hi) : Same (metZ n x lo hi z) (true, fun _ => 0) := by
  have hv := isVarP_lt hx
  have e1 : ofLo lo hi = 1 := if_pos (by omega)
  have e2 : ofHi lo hi = 0 := if_pos (by omega)
  have g := good_met h x lo hi
  have e : metZ n x lo hi z = bndZ n (-1) x (0 - 1) (bndZ n x (-1) 0 z) := by unfold metZ; rw [if_neg (by omega), e1, e2]
  rw [e] at g ⊢
  have g1 := good_bnd h x (-1) 0
  cases hc : (bndZ n (-1) x (0 - 1) (bndZ n x (-1) 0 z)).1 with
  | true => exact ⟨hc, fun o ho => g.none hc o ho⟩
  | false =>
    exfalso
    have hR := R_le n
    have p := pt_at g hc (j := 0) (by omega)
    have p1 := (bnd_pt g1 (isEnd_nought n) (isVar_end hx) _).1 p
    have p2 := (bnd_pt h (isVar_end hx) (isEnd_nought n) _).1 p1.1
    have := p1.2
    have := p2.2
    omega
def nhasS : FSpec := fun ds _ => match ds with
  | [.b c, .d I, .i n, .b e, .f f, .d v] => some { val := .one (.sc (.bool (.sym (nhasP c I n e f v)))), vc := [I.len ≤ 1000] }
  | _ => none
def nhasC : Con := con [numA, .sc (.rows 3)] nhasS
theorem nhas_ok : ConOK Try.prog 33 nhasC := by
  refine fn_ob tt_ok mixed Try.func33 rfl (fun _ _ => by kernel_rfl) (A := fun ds => ⟨fun _ => Cons.of [(56, ihasC), (57, zhasC)], fun k => match k, ds with | 4, [.b c, .d I, .i n, .b e, .f f, .d v] => some { ι := Nat, pre := fun _ k => k ≤ I.len ∧ ∀ j, j < k → hasJ I v j = true, μ := fun k => I.len + 1 - k, st := fun s k => famR s [(20, .one (.sc (.int .i64 (.sym ((k : Nat))))))] [1, 2, 18, 19] [] [2] } | _, _ => none, fun _ => none⟩) (fun _ _ => (cons_cons ihas_ok (cons_cons zhas_ok cons_nil))) (by kernel_rfl) ?_
  intro ds fr
  unfold nhasS
  split
  · rename_i c I n e f v
    refine kmp (q := I.len ≤ (1000 : Nat) →
 ((c || (↑v.len : Int) != (↑I.len : Int)) = true → false = nhasP c I n e f v) ∧
 ((c || (↑v.len : Int) != (↑I.len : Int)) = false →
 (∃ (i : Nat),
 (i ≤ I.len ∧ ∀ (j : Nat), j < i → hasJ I v j = true) ∧
 (0 : Int) = (↑i : Int) ∧
 v.rows = v.rows ∧
 I.rows = I.rows ∧ (↑I.len : Int) = (↑I.len : Int) ∧ c = c ∧ I.rows = I.rows ∧ n = n ∧ e = e ∧ ∀ (o : Nat), o < nat_lit 49 → f o = f o) ∧
 ∀ (i : Nat),
 (i ≤ I.len ∧ ∀ (j : Nat), j < i → hasJ I v j = true) →
 (decide ((↑i : Int) < (↑I.len : Int)) = true →
 ((0 : Int) ≤ (↑i : Int) ∧ (↑i : Int) < (↑I.len : Int)) ∧
 ((0 : Int) ≤ (↑i : Int) ∧ (↑i : Int) < (↑v.len : Int)) ∧
 ((!(decide ((I.el (↑i : Int).toNat (0 : Nat)).toI ≤ (v.el (↑i : Int).toNat (0 : Nat)).toI) &&
 decide ((v.el (↑i : Int).toNat (0 : Nat)).toI ≤ (I.el (↑i : Int).toNat ((0 : Nat) + (1 : Nat))).toI))) =
 true →
 false = nhasP c I n e f v) ∧
 ((!(decide ((I.el (↑i : Int).toNat (0 : Nat)).toI ≤ (v.el (↑i : Int).toNat (0 : Nat)).toI) &&
 decide ((v.el (↑i : Int).toNat (0 : Nat)).toI ≤ (I.el (↑i : Int).toNat ((0 : Nat) + (1 : Nat))).toI))) =
 false →
 ∃ (j : Nat),
 (j ≤ I.len ∧ ∀ (j_1 : Nat), j_1 < j → hasJ I v j_1 = true) ∧
 I.len + (1 : Nat) - j < I.len + (1 : Nat) - i ∧
 IntKind.i64.wrap ((↑i : Int) + (1 : Int)) = (↑j : Int) ∧
 v.rows = v.rows ∧
 I.rows = I.rows ∧
 (↑I.len : Int) = (↑I.len : Int) ∧ c = c ∧ I.rows = I.rows ∧ n = n ∧ e = e ∧ ∀ (o : Nat), o < nat_lit 49 → f o = f o)) ∧
 (decide ((↑i : Int) < (↑I.len : Int)) = false → hasP n e f v.len (ig v) = nhasP c I n e f v))) (by kernel_rfl) ?_
    simp only [raw0, true_and, and_true, implies_true, Nat.mul_one, Int.toNat_natCast, c7, decide_eq_true_eq, decide_eq_false_iff_not, Nat.zero_add, forall_const, Nat.le_eq, at_iff, bne_iff_ne, bne_eq_false_iff_eq, and_self, and_self_left, Nat.reduceAdd]
    intro hI
    refine ⟨fun h => (if_pos h).symm, fun h => ⟨⟨0, ⟨by omega, fun j hj => absurd hj (Nat.not_lt_zero j)⟩, rfl⟩, fun i hi => ⟨fun h1 => ?_, fun h1 => ?_⟩⟩⟩
    · have hvl : (v.len : Int) = I.len := by
        simp only [Bool.or_eq_false_iff, bne_eq_false_iff_eq] at h
        exact h.2
      refine ⟨by omega, by omega, fun h2 => ?_, fun h2 => ⟨i + 1, ⟨by omega, fun j hj => ?_⟩, by omega, wr _ (by omega)⟩⟩
      · have e : nhasP c I n e f v = (allJ (hasJ I v) I.len && hasP n e f v.len (ig v)) := if_neg (by rw [h]; simp)
        rw [e, allJ_no (j := i) (by omega) (by unfold hasJ; rwa [Bool.not_eq_true'] at h2)]
        rfl
      · by_cases hj2 : j < i
        · exact hi.2 j hj2
        · rw [show j = i by omega]; unfold hasJ; simpa using h2
    · have e : nhasP c I n e f v = (allJ (hasJ I v) I.len && hasP n e f v.len (ig v)) := if_neg (by rw [h]; simp)
      rw [e, allJ_iff.2 (fun j hj => hi.2 j (by omega))]
      rfl
  · trivial
def nrightS : FSpec := fun ds _ => match ds with
  | [.b c, .d I, .i n, .b e, .f f] => some { val := .one (.sc (.bool (.sym (nrightP c I n e f)))), vc := [Sm f, I.len ≤ 1000] }
  | _ => none
def nrightC : Con := con [numA] nrightS
theorem nright_ok : ConOK Try.prog 34 nrightC := by
  refine fn_ob tt_ok mixed Try.func34 rfl (fun _ _ => by kernel_rfl) (A := fun ds => ⟨fun _ => Cons.of [(58, zrightC), (38, zitvC)], fun k => match k, ds with | 4, [.b c, .d I, .i n, .b e, .f f] => some { ι := Nat, pre := fun _ k => k ≤ I.len ∧ ∀ j, j < k → rightJ I n e f j = true, μ := fun k => I.len + 1 - k, st := fun s k => famR s [(29, .one (.sc (.int .i64 (.sym ((k : Nat))))))] [1, 27, 28] [] [1] } | _, _ => none, fun _ => none⟩) (fun _ _ => (cons_cons zright_ok (cons_cons zitv_ok cons_nil))) (by kernel_rfl) ?_
  intro ds fr
  unfold nrightS
  split
  · rename_i c I n e f
    refine kmp (q := Sm f →
 I.len ≤ (1000 : Nat) →
 ((!rightP n e f || !e == c || n != (↑I.len : Int)) = true → false = nrightP c I n e f) ∧
 ((!rightP n e f || !e == c || n != (↑I.len : Int)) = false →
 (∃ (i : Nat),
 (i ≤ I.len ∧ ∀ (j : Nat), j < i → rightJ I n e f j = true) ∧
 (0 : Int) = (↑i : Int) ∧
 I.rows = I.rows ∧ (↑I.len : Int) = (↑I.len : Int) ∧ c = c ∧ I.rows = I.rows ∧ n = n ∧ e = e ∧ ∀ (o : Nat), o < nat_lit 49 → f o = f o) ∧
 ∀ (i : Nat),
 (i ≤ I.len ∧ ∀ (j : Nat), j < i → rightJ I n e f j = true) →
 (decide ((↑i : Int) < (↑I.len : Int)) = true →
 ((0 : Int) ≤ (↑i : Int) ∧ (↑i : Int) < (↑I.len : Int)) ∧
 Sm f ∧
 ((!((I.el (↑i : Int).toNat (0 : Nat)).toI == itvLo n e f (↑i : Int) &&
 ((I.el (↑i : Int).toNat ((0 : Nat) + (1 : Nat))).toI == itvHi n e f (↑i : Int) && true))) =
 true →
 false = nrightP c I n e f) ∧
 ((!((I.el (↑i : Int).toNat (0 : Nat)).toI == itvLo n e f (↑i : Int) &&
 ((I.el (↑i : Int).toNat ((0 : Nat) + (1 : Nat))).toI == itvHi n e f (↑i : Int) && true))) =
 false →
 ∃ (j : Nat),
 (j ≤ I.len ∧ ∀ (j_1 : Nat), j_1 < j → rightJ I n e f j_1 = true) ∧
 I.len + (1 : Nat) - j < I.len + (1 : Nat) - i ∧
 IntKind.i64.wrap ((↑i : Int) + (1 : Int)) = (↑j : Int) ∧
 I.rows = I.rows ∧
 (↑I.len : Int) = (↑I.len : Int) ∧ c = c ∧ I.rows = I.rows ∧ n = n ∧ e = e ∧ ∀ (o : Nat), o < nat_lit 49 → f o = f o)) ∧
 (decide ((↑i : Int) < (↑I.len : Int)) = false → true = nrightP c I n e f))) (by kernel_rfl) ?_
    simp only [raw0, true_and, and_true, implies_true, Nat.mul_one, Int.toNat_natCast, c7, decide_eq_true_eq, decide_eq_false_iff_not, Nat.zero_add, forall_const, Nat.le_eq, at_iff, bne_iff_ne, bne_eq_false_iff_eq, and_self, and_self_left, Nat.reduceAdd]
    intro hs hI
    have hb : (!e == c) = (e != c) := rfl
    have hcond : (!rightP n e f || !e == c || n != (I.len : Int)) = (!rightP n e f || (e != c) || n != (I.len : Int)) := by cases e <;> cases c <;> rfl
    rw [hcond]
    refine ⟨fun h => (if_pos h).symm, fun h => ⟨⟨0, ⟨by omega, fun j hj => absurd hj (Nat.not_lt_zero j)⟩, rfl⟩, fun i hi => ⟨fun h1 => ?_, fun h1 => ?_⟩⟩⟩
    · refine ⟨by omega, hs, fun h2 => ?_, fun h2 => ⟨i + 1, ⟨by omega, fun j hj => ?_⟩, by omega, wr _ (by omega)⟩⟩
      · have e : nrightP c I n e f = allJ (rightJ I n e f) I.len := if_neg (by rw [h]; simp)
        rw [e, allJ_no (j := i) (by omega) (by unfold rightJ; rwa [Bool.not_eq_true', Bool.and_true] at h2)]
      · by_cases hj2 : j < i
        · exact hi.2 j hj2
        · rw [show j = i by omega]; unfold rightJ; simpa using h2
    · have e : nrightP c I n e f = allJ (rightJ I n e f) I.len := if_neg (by rw [h]; simp)
      rw [e, allJ_iff.2 (fun j hj => hi.2 j (by omega))]
  · trivial
def normS : FSpec := fun ds _ => match ds with
  | [.i a, .i b] => some { val := .one (.agg [.c (.int .i64 (.sym (normLo a b))), .c (.int .i64 (.sym (normHi a b)))]), vc := [] }
  | _ => none
def normC : Con := con [itvA] normS
theorem norm_ok : ConOK Try.prog 26 normC := by
  refine fn_ob tt_ok mixed Try.func26 rfl (fun _ _ => by kernel_rfl) (A := fun ds => ⟨fun _ => Cons.of [], fun _ => none, fun _ => none⟩) (fun _ _ => cons_nil) (by kernel_rfl) ?_
  intro ds fr
  unfold normS
  split
  · rename_i a b
    refine kmp (q := (decide (a > b) = true → (1 : Int) = normLo a b ∧ (0 : Int) = normHi a b) ∧ (decide (a > b) = false → a = normLo a b ∧ b = normHi a b)) (by kernel_rfl) ?_
    simp only [raw0, true_and, and_true, implies_true, Nat.mul_one, Int.toNat_natCast, c7, decide_eq_true_eq, decide_eq_false_iff_not, Nat.zero_add, forall_const, Nat.le_eq, at_iff, bne_iff_ne, bne_eq_false_iff_eq, and_self, and_self_left, Nat.reduceAdd]
    unfold normLo normHi
    exact ⟨fun h => ⟨(if_pos h).symm, (if_pos h).symm⟩, fun h => ⟨(if_neg h).symm, (if_neg h).symm⟩⟩
  · trivial
def bendS : FSpec := fun ds _ => match ds with
  | [.i a, .i b] => some { val := .one (.agg [.c (.int .i64 (.sym (bend a))), .c (.int .i64 (.sym (bend b)))]), vc := [] }
  | _ => none
def bendC : Con := con [itvA] bendS
theorem bend_ok : ConOK Try.prog 27 bendC := by
  refine fn_ob tt_ok mixed Try.func27 rfl (fun _ _ => by kernel_rfl) (A := fun ds => ⟨fun _ => Cons.of [], fun _ => none, fun _ => none⟩) (fun _ _ => cons_nil) (by kernel_rfl) ?_
  intro ds fr
  unfold bendS
  split
  · rename_i a b
    refine kmp (q := IntKind.i64.wrap (IntKind.i32.wrap a) = bend a ∧ IntKind.i64.wrap (IntKind.i32.wrap b) = bend b) (by kernel_rfl) ?_
    exact ⟨rfl, rfl⟩
  · trivial
def ritvS : FSpec := fun ds _ => match ds with
  | [.i n, .b c, .f f, .i x] => some { val := .one (.agg [.c (.int .i64 (.sym (itvLo n c f x))), .c (.int .i64 (.sym (itvHi n c f x)))]), vc := [Good n (c, f), isVarP n x = true] }
  | _ => none
def ritvC : Con := con [zA, iA] ritvS
theorem ritv_ok : ConOK Try.prog 45 ritvC := by
  refine fn_ob tt_ok mixed Try.func45 rfl (fun _ _ => by kernel_rfl) (A := fun ds => ⟨fun _ => Cons.of [], fun _ => none, fun _ => none⟩) (fun _ _ => cons_nil) (by kernel_rfl) ?_
  intro ds fr
  unfold ritvS
  split
  · rename_i n c f x
    refine kmp (q := Good n (c, f) →
 isVarP n x = true →
 (c = true → (1 : Int) = itvLo n c f x ∧ (0 : Int) = itvHi n c f x) ∧
 (c = false →
 ((0 : Int) ≤ IntKind.i64.wrap (x + (1 : Int)) ∧ IntKind.i64.wrap (x + (1 : Int)) < (↑(7 : Nat) : Int)) ∧
 nat_lit 0 + (IntKind.i64.wrap (x + (1 : Int))).toNat * (1 : Nat) < nat_lit 49 ∧
 ((0 : Int) ≤ IntKind.i64.wrap (x + (1 : Int)) ∧ IntKind.i64.wrap (x + (1 : Int)) < (↑(7 : Nat) : Int)) ∧
 nat_lit 0 + (IntKind.i64.wrap (x + (1 : Int))).toNat * (7 : Nat) < nat_lit 49 ∧
 IntKind.i64.wrap ((0 : Int) - f (nat_lit 0 + (IntKind.i64.wrap (x + (1 : Int))).toNat * (1 : Nat))) = itvLo n c f x ∧
 f (nat_lit 0 + (IntKind.i64.wrap (x + (1 : Int))).toNat * (7 : Nat)) = itvHi n c f x)) (by kernel_rfl) ?_
    simp only [raw0, true_and, and_true, implies_true, Nat.mul_one, Int.toNat_natCast, c7, decide_eq_true_eq, decide_eq_false_iff_not, Nat.zero_add, forall_const, Nat.le_eq, at_iff, bne_iff_ne, bne_eq_false_iff_eq, and_self, and_self_left, Nat.reduceAdd]
    intro hG hx
    have hv := isVarP_lt hx
    obtain ⟨a1, a2, a3⟩ := isVar_R hx
    have h1 := hG.hi1 _ a1
    have sm := hG.sm (x + 1).toNat (by omega)
    dsimp only at h1 sm
    rw [wr (x + 1) (by omega), wr (0 - f (x + 1).toNat) (by omega)]
    refine ⟨fun h => ?_, fun h => ?_⟩
    · exact ⟨(if_pos (by rw [h]; simp)).symm, (if_pos (by rw [h]; simp)).symm⟩
    · obtain ⟨l1, l2⟩ := itv_exact hG h hx
      exact ⟨by omega, by omega, by omega, by omega, l1.symm, l2.symm⟩
  · trivial
def rmeetS : FSpec := fun ds _ => match ds with
  | [.i n, .b c, .f f, .i x, .i lo, .i hi] => some { val := .one (.agg [.c (.int .i64 (.sym (n))), .c (.bool (.sym ((metZ n x lo hi (c, f)).1))), .ints .i64 (.lit 49) ((metZ n x lo hi (c, f)).2)]), vc := [Good n (c, f), isVarP n x = true, -2147483648 ≤ lo ∧ lo ≤ 2147483647, -2147483648 ≤ hi ∧ hi ≤ 2147483647] }
  | _ => none
def rmeetC : Con := con [zA, iA, itvA] rmeetS
theorem rmeet_ok : ConOK Try.prog 14 rmeetC := by
  refine fn_ob tt_ok mixed Try.func14 rfl (fun _ _ => by kernel_rfl) (A := fun ds => ⟨fun _ => Cons.of [(43, rboundC)], fun _ => none, fun _ => none⟩) (fun _ _ => (cons_cons rbound_ok cons_nil)) (by kernel_rfl) ?_
  intro ds fr
  unfold rmeetS
  split
  · rename_i n c f x lo hi
    refine kmp (q := Good n (c, f) →
 isVarP n x = true →
 (-2147483648 : Int) ≤ lo ∧ lo ≤ (2147483647 : Int) →
 (-2147483648 : Int) ≤ hi ∧ hi ≤ (2147483647 : Int) →
 ((c || decide (lo > hi)) = true →
 n = n ∧ true = (metZ n x lo hi (c, f)).fst ∧ ∀ (o : Nat), o < nat_lit 49 → (0 : Int) = (metZ n x lo hi (c, f)).snd o) ∧
 ((c || decide (lo > hi)) = false →
 Good n (c, f) ∧
 isEndP n x = true ∧
 isEndP n (-1 : Int) = true ∧
 x ≠ (-1 : Int) ∧
 (-4294967296 : Int) ≤ hi ∧
 Good n ((bndZ n x (-1 : Int) hi (c, f)).fst, (bndZ n x (-1 : Int) hi (c, f)).snd) ∧
 isEndP n (-1 : Int) = true ∧
 isEndP n x = true ∧
 (-1 : Int) ≠ x ∧
 (-4294967296 : Int) ≤ IntKind.i64.wrap ((0 : Int) - lo) ∧
 n = n ∧
 (bndZ n (-1 : Int) x (IntKind.i64.wrap ((0 : Int) - lo))
 ((bndZ n x (-1 : Int) hi (c, f)).fst, (bndZ n x (-1 : Int) hi (c, f)).snd)).fst =
 (metZ n x lo hi (c, f)).fst ∧
 ∀ (o : Nat),
 o < nat_lit 49 →
 (bndZ n (-1 : Int) x (IntKind.i64.wrap ((0 : Int) - lo))
 ((bndZ n x (-1 : Int) hi (c, f)).fst, (bndZ n x (-1 : Int) hi (c, f)).snd)).snd
 o =
 (metZ n x lo hi (c, f)).snd o)) (by kernel_rfl) ?_
    simp only [raw0, true_and, and_true, implies_true, Nat.mul_one, Int.toNat_natCast, c7, decide_eq_true_eq, decide_eq_false_iff_not, Nat.zero_add, forall_const, Nat.le_eq, at_iff, bne_iff_ne, bne_eq_false_iff_eq, and_self, and_self_left, Nat.reduceAdd]
    intro hG hx hl hh
    have hv := isVarP_lt hx
    rw [wr (0 - lo) (by omega)]
    have g1 := good_bnd hG x (-1) hi
    refine ⟨fun h => ?_, fun h => ?_⟩
    · cases hc : c with
      | true =>
        subst hc
        have e : metZ n x lo hi (true, f) = (true, f) := by
          unfold metZ
          rw [if_neg (by omega), bnd_none (z := (true, f)) rfl, bnd_none (z := (true, f)) rfl]
        rw [e]
        exact ⟨rfl, fun o ho => (hG.none rfl o ho).symm⟩
      | false =>
        subst hc
        have : lo > hi := by simpa using h
        have s := met_none hG hx this
        exact ⟨s.1.symm, fun o ho => (s.2 o ho).symm⟩
    · have hle : ¬ lo > hi := by
        simp only [Bool.or_eq_false_iff, decide_eq_false_iff_not] at h
        exact h.2
      obtain ⟨e1, e2⟩ := of_norm hl hh
      have n1 : normLo lo hi = lo := if_neg hle
      have n2 : normHi lo hi = hi := if_neg hle
      have e : metZ n x lo hi (c, f) = bndZ n (-1) x (0 - lo) (bndZ n x (-1) hi (c, f)) := by
        unfold metZ; rw [if_neg (by omega), e1, e2, n1, n2]
      rw [e]
      exact ⟨hG, isVar_end hx, isEnd_nought n, by omega, by omega, g1, isEnd_nought n, isVar_end hx, by omega, by omega, rfl, fun _ _ => rfl⟩
  · trivial
def rsetS : FSpec := fun ds _ => match ds with
  | [.i n, .b c, .f f, .i x, .i lo, .i hi] => some { val := .one (.agg [.c (.int .i64 (.sym (n))), .c (.bool (.sym ((metZ n x lo hi (fgZ n x (c, f))).1))), .ints .i64 (.lit 49) ((metZ n x lo hi (fgZ n x (c, f))).2)]), vc := [Good n (c, f), isVarP n x = true, -2147483648 ≤ lo ∧ lo ≤ 2147483647, -2147483648 ≤ hi ∧ hi ≤ 2147483647] }
  | _ => none
def rsetC : Con := con [zA, iA, itvA] rsetS
theorem rset_ok : ConOK Try.prog 47 rsetC := by
  refine fn_ob tt_ok mixed Try.func47 rfl (fun _ _ => by kernel_rfl) (A := fun ds => ⟨fun _ => Cons.of [(64, rforgetC), (14, rmeetC)], fun _ => none, fun _ => none⟩) (fun _ _ => (cons_cons rforget_ok (cons_cons rmeet_ok cons_nil))) (by kernel_rfl) ?_
  intro ds fr
  unfold rsetS
  split
  · rename_i n c f x lo hi
    refine kmp (q := Good n (c, f) →
 isVarP n x = true →
 (-2147483648 : Int) ≤ lo ∧ lo ≤ (2147483647 : Int) →
 (-2147483648 : Int) ≤ hi ∧ hi ≤ (2147483647 : Int) →
 Good n (c, f) ∧
 isVarP n x = true ∧
 Good n ((fgZ n x (c, f)).fst, (fgZ n x (c, f)).snd) ∧
 isVarP n x = true ∧
 ((-2147483648 : Int) ≤ lo ∧ lo ≤ (2147483647 : Int)) ∧
 ((-2147483648 : Int) ≤ hi ∧ hi ≤ (2147483647 : Int)) ∧
 n = n ∧
 (metZ n x lo hi ((fgZ n x (c, f)).fst, (fgZ n x (c, f)).snd)).fst = (metZ n x lo hi (fgZ n x (c, f))).fst ∧
 ∀ (o : Nat),
 o < nat_lit 49 → (metZ n x lo hi ((fgZ n x (c, f)).fst, (fgZ n x (c, f)).snd)).snd o = (metZ n x lo hi (fgZ n x (c, f))).snd o) (by kernel_rfl) ?_
    simp only [raw0, true_and, and_true, implies_true, Nat.mul_one, Int.toNat_natCast, c7, decide_eq_true_eq, decide_eq_false_iff_not, Nat.zero_add, forall_const, Nat.le_eq, at_iff, bne_iff_ne, bne_eq_false_iff_eq, and_self, and_self_left, Nat.reduceAdd]
    intro hG hx hl hh
    exact ⟨hG, hx, good_fg hG x, hx, hl, hh⟩
  · trivial
end Go.Proofs.Ytefdfggkhnahiaa.Sx.Z
