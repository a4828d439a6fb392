/-
  ZoneForgets' contract.
-/
import Derived.Test.YtmdoafhohflhdaaYg
namespace Go.Proofs.Ytmdoafhohflhdaa.Sx.Z
open Go.RowKit
def k4 (x : Int) : Int := IntKind.i64.wrap ((IntKind.u64.wrap x).tmod 4)
def ZA (n : Int) (row : D) : Zs := actsZ n row (false, topF n)
theorem ZA_good {n : Int} (hn : 0 ≤ n ∧ n ≤ 6) (row : D) : Good n (ZA n row) := good_actsZ (by have := good_top n; rwa [show topN n = n by unfold topN; omega] at this)
theorem k4_in (x : Int) : 0 ≤ k4 x ∧ k4 x ≤ 3 := by
  unfold k4
  have h2 := tmod_in (u64_in x).1 (show (0 : Int) < 4 by omega)
  rw [wr _ (by omega)]
  omega
theorem fg_true {n x : Int} {z : Zs} (h : z.1 = true) : fgZ n x z = z := by
  obtain ⟨c, f⟩ := z
  dsimp only at h
  subst h
  refine Prod.ext rfl (funext fun o => ?_)
  show forgetF n true f x o = f o
  unfold forgetF; rw [if_pos (by simp)]
theorem fg_false {n x : Int} {z : Zs} (h : z.1 = false) (hx : isVarP n x = true) : fgZ n x z = (false, fgTo z.2 (x + 1).toNat (R n)) := by
  obtain ⟨c, f⟩ := z
  dsimp only at h
  subst h
  refine Prod.ext rfl (funext fun o => ?_)
  show forgetF n false f x o = _
  unfold forgetF; rw [if_neg (by rw [hx]; simp)]; rfl
theorem fg_idem {n x : Int} {z : Zs} (hx : isVarP n x = true) (o : Nat) (ho : o < 49) : forgetF n (fgZ n x z).1 (fgZ n x z).2 x o = (fgZ n x z).2 o := by
  cases h : z.1 with
  | true => rw [fg_true h]; unfold forgetF; rw [h, if_pos (by simp)]
  | false =>
    have hR := R_le n
    obtain ⟨ha, hax, ha1⟩ := isVar_R hx
    rw [fg_false h hx]
    unfold forgetF
    rw [if_neg (by rw [hx]; simp)]
    show fgTo (fgTo z.2 (x + 1).toNat (R n)) (x + 1).toNat (R n) o = fgTo z.2 (x + 1).toNat (R n) o
    generalize (x + 1).toNat = a at *
    unfold fgTo
    by_cases c1 : o / 7 = a ∧ o % 7 ≠ a ∧ o % 7 < R n
    · rw [if_pos c1, if_pos c1, if_neg (by omega), if_neg (by omega)]
    · rw [if_neg c1, if_neg c1]
      by_cases c2 : o % 7 = a ∧ o / 7 ≠ a ∧ o / 7 < R n
      · rw [if_pos c2, if_pos c2, if_neg (by omega), if_neg (by omega)]
      · rw [if_neg c2, if_neg c2]
theorem fg_within {n x : Int} {z : Zs} (g : Good n z) (h : z.1 = false) (hx : isVarP n x = true) : withinP n z.1 z.2 n (fgZ n x z).1 (fgZ n x z).2 = true := by
  have hR := R_le n
  rw [fg_false h hx, h]
  unfold withinP
  rw [if_neg (by simp)]
  refine allB_iff.2 fun o ho hr => ?_
  have e : o / 7 * 7 + o % 7 = o := by omega
  unfold leP
  rw [decide_eq_true_eq]
  rw [← e]
  have hr' : o / 7 < R n ∧ o % 7 < R n := hr
  dsimp only
  rw [fg_at hr'.1 hr'.2 hR.2.1]
  have t := g.tri (o / 7) (o % 7) 0 hr'.1 hr'.2 (by omega)
  have h0 := g.hi0 (o / 7) hr'.1
  have h1 := g.hi1 (o % 7) hr'.2
  unfold Z.tri at t
  rw [Nat.add_zero, Nat.zero_mul, Nat.zero_add] at t
  split
  · omega
  · split
    · omega
    · exact Int.le_refl _
theorem fg_all {n x : Int} {z : Zs} (g : Good n z) (h : z.1 = false) (hx : isVarP n x = true) : itvLo n (fgZ n x z).1 (fgZ n x z).2 x = -2147483648 ∧ itvHi n (fgZ n x z).1 (fgZ n x z).2 x = 2147483647 := by
  have hR := R_le n
  obtain ⟨ha, hax, ha1⟩ := isVar_R hx
  have d := g.diag 0 (by omega)
  rw [Nat.zero_mul, Nat.zero_add] at d
  rw [fg_false h hx]
  have e1 := fg_at (f := z.2) (a := (x + 1).toNat) ha (show 0 < R n by omega) hR.2.1
  have e2 := fg_at (f := z.2) (a := (x + 1).toNat) (show 0 < R n by omega) ha hR.2.1
  rw [Nat.add_zero, if_pos ⟨rfl, by omega⟩, d] at e1
  rw [Nat.zero_mul, Nat.zero_add, if_neg (by omega), if_pos ⟨rfl, by omega⟩, d] at e2
  unfold itvLo itvHi
  rw [hx, if_neg (by simp), if_neg (by simp)]
  dsimp only
  rw [e1, e2]
  exact ⟨rfl, rfl⟩
def zforgetsS : FSpec := fun ds _ => match ds with
  | [.d row, .i x] => some { val := .one (.sc (.bool (.sym (true)))), vc := [] }
  | _ => none
def zforgetsC : Con := con [.sc (.rows 44), iA] zforgetsS
theorem zforgets_ok : ConOK Try.prog 11 zforgetsC := by
  refine fn_ob tt_ok mixed Try.func11 rfl (fun _ _ => by kernel_rfl) (A := fun ds => ⟨fun _ => Cons.of [(12, topC), (13, rtopC), (18, applyC), (22, forgetC), (16, copiesC), (19, zitvC), (35, iallC), (30, withinC)], fun k => match k, ds with | 7, [.d row, .i x] => some { ι := Nat, pre := fun _ i => i ≤ 5, μ := fun i => 9 - i, st := fun s i => famR s [(10, .one (.sc (.int .i64 (.sym ((i : Nat))))))] [5, 8, 9] [] [5, 9] } | 10, [.d row, .i x] => some { ι := Nat, pre := fun _ i => i ≤ 5, μ := fun i => 9 - i, st := fun s i => famR s [(11, .one (.sc (.int .i64 (.sym ((i : Nat))))))] [5, 8, 9, 10] [] [5, 9] } | _, _ => none, fun k => match k, ds with | 4, [.d row, .i x] => some { ι := Bool, pre := fun _ _ => True, μ := fun _ => 0, st := fun s _ => famR s [(8, .one (.sc (.int .i64 (.sym (k4 x))))), (9, .one (.sc (.ptr (s.nx - 1) (.lit 0)))), (7, .one (.sc (.bool (.sym (true)))))] [5] [(idOf s 5, .own 27 (zs (.sym 4) (.sym (ZA 4 row).1) (ZA 4 row).2)), (s.nx - 1, .own 27 (zs (.sym 4) (.sym (fgZ 4 (k4 x) (ZA 4 row)).1) (fgZ 4 (k4 x) (ZA 4 row)).2))] [] } | _, _ => none⟩) (fun _ _ => (cons_cons top_ok (cons_cons rtop_ok (cons_cons apply_ok (cons_cons forget_ok (cons_cons copies_ok (cons_cons zitv_ok (cons_cons iall_ok (cons_cons within_ok cons_nil))))))))) (by kernel_rfl) ?_
  intro ds fr
  unfold zforgetsS
  split
  · rename_i row x
    refine kmp (q := Good (topN (4 : Int)) (false, topF (4 : Int)) ∧
 topN (4 : Int) = topN (4 : Int) ∧
 false = false ∧
 (∀ (o : Nat), o < (49 : Nat) → topF (4 : Int) o = topF (4 : Int) o) ∧
 (Sm (actsZ (topN (4 : Int)) row (false, topF (4 : Int))).snd ∧
 ∃ (i : Bool),
 True ∧
 IntKind.i64.wrap ((IntKind.u64.wrap x).tmod (4 : Int)) = k4 x ∧
 true = true ∧
 topN (4 : Int) = (4 : Int) ∧
 (actsZ (topN (4 : Int)) row (false, topF (4 : Int))).fst = (ZA (4 : Int) row).fst ∧
 (∀ (o : Nat), o < nat_lit 49 → (actsZ (topN (4 : Int)) row (false, topF (4 : Int))).snd o = (ZA (4 : Int) row).snd o) ∧
 topN (4 : Int) = (4 : Int) ∧
 (actsZ (topN (4 : Int)) row (false, topF (4 : Int))).fst = (fgZ (4 : Int) (k4 x) (ZA (4 : Int) row)).fst ∧
 ∀ (o : Nat),
 o < nat_lit 49 →
 forgetF (topN (4 : Int)) (actsZ (topN (4 : Int)) row (false, topF (4 : Int))).fst
 (actsZ (topN (4 : Int)) row (false, topF (4 : Int))).snd (IntKind.i64.wrap ((IntKind.u64.wrap x).tmod (4 : Int))) o =
 (fgZ (4 : Int) (k4 x) (ZA (4 : Int) row)).snd o) ∧
 ∀ (i : Bool),
 True →
 ((!true || !true || (ZA (4 : Int) row).fst) = true →
 (true && true &&
 ((4 : Int) == (4 : Int) &&
 ((fgZ (4 : Int) (k4 x) (ZA (4 : Int) row)).fst == (ZA (4 : Int) row).fst &&
 (decide (∀ (o : Nat), o < (49 : Nat) → (fgZ (4 : Int) (k4 x) (ZA (4 : Int) row)).snd o = (ZA (4 : Int) row).snd o) && true)))) =
 true) ∧
 ((!true || !true || (ZA (4 : Int) row).fst) = false →
 (∃ (i : Nat),
 i.le (5 : Nat) ∧
 (0 : Int) = (↑i : Int) ∧
 k4 x = k4 x ∧
 (4 : Int) = (4 : Int) ∧
 (ZA (4 : Int) row).fst = (ZA (4 : Int) row).fst ∧
 (∀ (o : Nat), o < nat_lit 49 → (ZA (4 : Int) row).snd o = (ZA (4 : Int) row).snd o) ∧
 (4 : Int) = (4 : Int) ∧
 (fgZ (4 : Int) (k4 x) (ZA (4 : Int) row)).fst = (fgZ (4 : Int) (k4 x) (ZA (4 : Int) row)).fst ∧
 ∀ (o : Nat),
 o < nat_lit 49 → (fgZ (4 : Int) (k4 x) (ZA (4 : Int) row)).snd o = (fgZ (4 : Int) (k4 x) (ZA (4 : Int) row)).snd o) ∧
 ∀ (i : Nat),
 i.le (5 : Nat) →
 (decide ((↑i : Int) ≤ (4 : Int)) = true →
 (∃ (i_1 : Nat),
 i_1.le (5 : Nat) ∧
 (0 : Int) = (↑i_1 : Int) ∧
 k4 x = k4 x ∧
 (↑i : Int) = (↑i : Int) ∧
 (4 : Int) = (4 : Int) ∧
 (ZA (4 : Int) row).fst = (ZA (4 : Int) row).fst ∧
 (∀ (o : Nat), o < nat_lit 49 → (ZA (4 : Int) row).snd o = (ZA (4 : Int) row).snd o) ∧
 (4 : Int) = (4 : Int) ∧
 (fgZ (4 : Int) (k4 x) (ZA (4 : Int) row)).fst = (fgZ (4 : Int) (k4 x) (ZA (4 : Int) row)).fst ∧
 ∀ (o : Nat),
 o < nat_lit 49 →
 (fgZ (4 : Int) (k4 x) (ZA (4 : Int) row)).snd o = (fgZ (4 : Int) (k4 x) (ZA (4 : Int) row)).snd o) ∧
 ∀ (i_1 : Nat),
 i_1.le (5 : Nat) →
 (decide ((↑i_1 : Int) ≤ (4 : Int)) = true →
 (((↑i : Int) != IntKind.i64.wrap (k4 x + (1 : Int)) && (↑i_1 : Int) != IntKind.i64.wrap (k4 x + (1 : Int))) = true ∧
 True →
 (0 : Int) ≤ (↑i : Int) ∧ (↑i : Int) < (↑(7 : Nat) : Int)) ∧
 (((↑i : Int) != IntKind.i64.wrap (k4 x + (1 : Int)) && (↑i_1 : Int) != IntKind.i64.wrap (k4 x + (1 : Int))) = true ∧
 True →
 (0 : Int) ≤ (↑i_1 : Int) ∧ (↑i_1 : Int) < (↑(7 : Nat) : Int)) ∧
 (((↑i : Int) != IntKind.i64.wrap (k4 x + (1 : Int)) && (↑i_1 : Int) != IntKind.i64.wrap (k4 x + (1 : Int))) = true ∧
 True →
 nat_lit 0 + ((↑i : Int).toNat * (7 : Nat) + (↑i_1 : Int).toNat * (1 : Nat)) < nat_lit 49) ∧
 (((↑i : Int) != IntKind.i64.wrap (k4 x + (1 : Int)) && (↑i_1 : Int) != IntKind.i64.wrap (k4 x + (1 : Int))) = true ∧
 True →
 (0 : Int) ≤ (↑i : Int) ∧ (↑i : Int) < (↑(7 : Nat) : Int)) ∧
 (((↑i : Int) != IntKind.i64.wrap (k4 x + (1 : Int)) && (↑i_1 : Int) != IntKind.i64.wrap (k4 x + (1 : Int))) =
 true ∧
 True →
 (0 : Int) ≤ (↑i_1 : Int) ∧ (↑i_1 : Int) < (↑(7 : Nat) : Int)) ∧
 (((↑i : Int) != IntKind.i64.wrap (k4 x + (1 : Int)) && (↑i_1 : Int) != IntKind.i64.wrap (k4 x + (1 : Int))) =
 true ∧
 True →
 nat_lit 0 + ((↑i : Int).toNat * (7 : Nat) + (↑i_1 : Int).toNat * (1 : Nat)) < nat_lit 49) ∧
 (((↑i : Int) != IntKind.i64.wrap (k4 x + (1 : Int)) && (↑i_1 : Int) != IntKind.i64.wrap (k4 x + (1 : Int)) &&
 (fgZ (4 : Int) (k4 x) (ZA (4 : Int) row)).snd
 (nat_lit 0 + ((↑i : Int).toNat * (7 : Nat) + (↑i_1 : Int).toNat * (1 : Nat))) !=
 (ZA (4 : Int) row).snd
 (nat_lit 0 + ((↑i : Int).toNat * (7 : Nat) + (↑i_1 : Int).toNat * (1 : Nat)))) =
 true →
 false = true) ∧
 (((↑i : Int) != IntKind.i64.wrap (k4 x + (1 : Int)) &&
 (↑i_1 : Int) != IntKind.i64.wrap (k4 x + (1 : Int)) &&
 (fgZ (4 : Int) (k4 x) (ZA (4 : Int) row)).snd
 (nat_lit 0 + ((↑i : Int).toNat * (7 : Nat) + (↑i_1 : Int).toNat * (1 : Nat))) !=
 (ZA (4 : Int) row).snd
 (nat_lit 0 + ((↑i : Int).toNat * (7 : Nat) + (↑i_1 : Int).toNat * (1 : Nat)))) =
 false →
 ∃ (j : Nat),
 j.le (5 : Nat) ∧
 (9 : Nat) - j < (9 : Nat) - i_1 ∧
 IntKind.i64.wrap ((↑i_1 : Int) + (1 : Int)) = (↑j : Int) ∧
 k4 x = k4 x ∧
 (↑i : Int) = (↑i : Int) ∧
 (4 : Int) = (4 : Int) ∧
 (ZA (4 : Int) row).fst = (ZA (4 : Int) row).fst ∧
 (∀ (o : Nat), o < nat_lit 49 → (ZA (4 : Int) row).snd o = (ZA (4 : Int) row).snd o) ∧
 (4 : Int) = (4 : Int) ∧
 (fgZ (4 : Int) (k4 x) (ZA (4 : Int) row)).fst =
 (fgZ (4 : Int) (k4 x) (ZA (4 : Int) row)).fst ∧
 ∀ (o : Nat),
 o < nat_lit 49 →
 (fgZ (4 : Int) (k4 x) (ZA (4 : Int) row)).snd o =
 (fgZ (4 : Int) (k4 x) (ZA (4 : Int) row)).snd o)) ∧
 (decide ((↑i_1 : Int) ≤ (4 : Int)) = false →
 ∃ (j : Nat),
 j.le (5 : Nat) ∧
 (9 : Nat) - j < (9 : Nat) - i ∧
 IntKind.i64.wrap ((↑i : Int) + (1 : Int)) = (↑j : Int) ∧
 k4 x = k4 x ∧
 (4 : Int) = (4 : Int) ∧
 (ZA (4 : Int) row).fst = (ZA (4 : Int) row).fst ∧
 (∀ (o : Nat), o < nat_lit 49 → (ZA (4 : Int) row).snd o = (ZA (4 : Int) row).snd o) ∧
 (4 : Int) = (4 : Int) ∧
 (fgZ (4 : Int) (k4 x) (ZA (4 : Int) row)).fst = (fgZ (4 : Int) (k4 x) (ZA (4 : Int) row)).fst ∧
 ∀ (o : Nat),
 o < nat_lit 49 →
 (fgZ (4 : Int) (k4 x) (ZA (4 : Int) row)).snd o =
 (fgZ (4 : Int) (k4 x) (ZA (4 : Int) row)).snd o)) ∧
 (decide ((↑i : Int) ≤ (4 : Int)) = false →
 Sm (fgZ (4 : Int) (k4 x) (ZA (4 : Int) row)).snd ∧
 ((itvLo (4 : Int) (fgZ (4 : Int) (k4 x) (ZA (4 : Int) row)).fst (fgZ (4 : Int) (k4 x) (ZA (4 : Int) row)).snd (k4 x) ==
 (-2147483648 : Int) &&
 (itvHi (4 : Int) (fgZ (4 : Int) (k4 x) (ZA (4 : Int) row)).fst (fgZ (4 : Int) (k4 x) (ZA (4 : Int) row)).snd (k4 x) ==
 (2147483647 : Int) &&
 true) &&
 withinP (4 : Int) (ZA (4 : Int) row).fst (ZA (4 : Int) row).snd (4 : Int) (fgZ (4 : Int) (k4 x) (ZA (4 : Int) row)).fst
 (fgZ (4 : Int) (k4 x) (ZA (4 : Int) row)).snd) =
 true ∧
 True →
 Sm (fgZ (4 : Int) (k4 x) (ZA (4 : Int) row)).snd) ∧
 (itvLo (4 : Int) (fgZ (4 : Int) (k4 x) (ZA (4 : Int) row)).fst (fgZ (4 : Int) (k4 x) (ZA (4 : Int) row)).snd (k4 x) ==
 (-2147483648 : Int) &&
 (itvHi (4 : Int) (fgZ (4 : Int) (k4 x) (ZA (4 : Int) row)).fst (fgZ (4 : Int) (k4 x) (ZA (4 : Int) row)).snd (k4 x) ==
 (2147483647 : Int) &&
 true) &&
 withinP (4 : Int) (ZA (4 : Int) row).fst (ZA (4 : Int) row).snd (4 : Int) (fgZ (4 : Int) (k4 x) (ZA (4 : Int) row)).fst
 (fgZ (4 : Int) (k4 x) (ZA (4 : Int) row)).snd &&
 ((4 : Int) == (4 : Int) &&
 ((fgZ (4 : Int) (k4 x) (ZA (4 : Int) row)).fst == (fgZ (4 : Int) (k4 x) (ZA (4 : Int) row)).fst &&
 (decide
 (∀ (o : Nat),
 o < (49 : Nat) →
 forgetF (4 : Int) (fgZ (4 : Int) (k4 x) (ZA (4 : Int) row)).fst (fgZ (4 : Int) (k4 x) (ZA (4 : Int) row)).snd
 (k4 x) o =
 (fgZ (4 : Int) (k4 x) (ZA (4 : Int) row)).snd o) &&
 true)))) =
 true))) (by kernel_rfl) ?_
    simp only [raw0, true_and, and_true, implies_true, Nat.mul_one, Int.toNat_natCast, c7, decide_eq_true_eq, decide_eq_false_iff_not, Nat.zero_add, forall_const, Nat.le_eq, at_iff, bne_iff_ne, bne_eq_false_iff_eq, and_self, and_self_left, Nat.reduceAdd]
    have h4 : topN 4 = 4 := rfl
    have gA := ZA_good (n := 4) (by omega) row
    have hk := k4_in x
    have vx := isVar_of (n := 4) (x := k4 x) (by omega) (by omega)
    have gT := good_top 4
    have gF := good_fg gA (k4 x)
    have hR4 : R 4 = 5 := rfl
    rw [h4] at gT ⊢
    have eA : actsZ 4 row (false, topF 4) = ZA 4 row := rfl
    have ek : IntKind.i64.wrap ((IntKind.u64.wrap x).tmod 4) = k4 x := rfl
    rw [eA, ek, wr (k4 x + 1) (by omega)]
    generalize ZA 4 row = z at *
    refine ⟨gT, ⟨gA.sm, true, rfl, rfl, rfl, fun _ _ => rfl, rfl, rfl, fun _ _ => rfl⟩, fun h => ?_, fun h => ⟨⟨0, by omega, rfl⟩, fun i hi => ⟨fun h1 => ⟨⟨0, by omega, rfl⟩, fun j hj => ⟨fun h2 => ⟨fun _ => by omega, fun _ => by omega, fun _ => by omega, fun _ => by omega, fun _ => by omega, fun _ => by omega, fun h3 => ?_, fun _ => ⟨j + 1, by omega, by omega, wr _ (by omega)⟩⟩, fun h2 => ⟨i + 1, by omega, by omega, wr _ (by omega)⟩⟩⟩, fun h1 => ⟨gF.sm, fun _ => gF.sm, ?_⟩⟩⟩⟩
    · have hz : z.1 = true := by simpa using h
      rw [fg_true hz]
      simp
    · have hz : z.1 = false := by simpa using h
      exfalso
      rw [fg_false hz vx] at h3
      simp only [Bool.and_eq_true, bne_iff_ne] at h3
      obtain ⟨⟨c1, c2⟩, c3⟩ := h3
      refine c3 ?_
      rw [fg_at (by omega) (by omega) (by omega), if_neg (by omega), if_neg (by omega)]
    · have hz : z.1 = false := by simpa using h
      obtain ⟨e1, e2⟩ := fg_all gA hz vx
      rw [e1, e2, fg_within gA hz vx, decide_eq_true (fun o ho => fg_idem vx o ho)]
      simp
  · trivial
end Go.Proofs.Ytmdoafhohflhdaa.Sx.Z
