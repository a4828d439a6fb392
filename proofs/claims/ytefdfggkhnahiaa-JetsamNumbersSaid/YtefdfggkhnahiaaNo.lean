/-
  The reference's Within, Join, Widen: what the program's tell.
-/
import Derived.Test.YtefdfggkhnahiaaNn
namespace Go.Proofs.Ytefdfggkhnahiaa.Sx.Z
open Go.RowKit
def wdP (n : Int) (f g : Nat → Int) : Nat → Zs
  | 0 => (false, topF n)
  | x + 1 =>
    let z := if g ((x + 1) * 7) ≤ f ((x + 1) * 7) then bndZ n x (-1) (f ((x + 1) * 7)) (wdP n f g x) else wdP n f g x
    if g (x + 1) ≤ f (x + 1) then bndZ n (-1) x (f (x + 1)) z else z
def wdM (n : Int) (f g : Nat → Int) (x : Nat) : Zs := if g ((x + 1) * 7) ≤ f ((x + 1) * 7) then bndZ n x (-1) (f ((x + 1) * 7)) (wdP n f g x) else wdP n f g x
theorem wdP_good {n : Int} (hn : 0 ≤ n ∧ n ≤ 6) (f g : Nat → Int) : ∀ k, Good n (wdP n f g k)
  | 0 => by have := good_top n; rwa [show topN n = n by unfold topN; omega] at this
  | k + 1 => by
    have h := wdP_good hn f g k
    unfold wdP
    dsimp only
    split
    · split
      · exact good_bnd (good_bnd h _ _ _) _ _ _
      · exact good_bnd h _ _ _
    · split
      · exact good_bnd h _ _ _
      · exact h
theorem wdM_good {n : Int} (hn : 0 ≤ n ∧ n ≤ 6) (f g : Nat → Int) (k : Nat) : Good n (wdM n f g k) := by
  have h := wdP_good hn f g k
  unfold wdM
  split
  · exact good_bnd h _ _ _
  · exact h
theorem wdP_pt {n : Int} (hn : 0 ≤ n ∧ n ≤ 6) (f g v : Nat → Int) : ∀ k : Nat, (k : Int) ≤ n → (Pt n (wdP n f g k) v ↔ Pt n (false, topF n) v ∧ ∀ i, i < k → (g ((i + 1) * 7) ≤ f ((i + 1) * 7) → v (i + 1) ≤ f ((i + 1) * 7)) ∧ (g (i + 1) ≤ f (i + 1) → 0 - v (i + 1) ≤ f (i + 1)))
  | 0, _ => ⟨fun h => ⟨h, fun i hi => absurd hi (Nat.not_lt_zero i)⟩, fun h => h.1⟩
  | k + 1, hk => by
    have h := wdP_good hn f g k
    have hM := wdM_good hn f g k
    have ex := isEnd_of (x := (k : Int)) hn (by omega)
    have ih := wdP_pt hn f g v k (by omega)
    have e1 : ((k : Int) + 1).toNat = k + 1 := by omega
    have e0 : ((-1 : Int) + 1).toNat = 0 := rfl
    have m : Pt n (wdM n f g k) v ↔ Pt n (wdP n f g k) v ∧ (g ((k + 1) * 7) ≤ f ((k + 1) * 7) → v (k + 1) - v 0 ≤ f ((k + 1) * 7)) := by
      unfold wdM
      split
      · rename_i hh
        rw [bnd_pt h ex (isEnd_nought n), e1, e0]
        exact ⟨fun q => ⟨q.1, fun _ => q.2⟩, fun q => ⟨q.1, q.2 hh⟩⟩
      · rename_i hh
        exact ⟨fun q => ⟨q, fun q' => absurd q' hh⟩, fun q => q.1⟩
    have l : Pt n (wdP n f g (k + 1)) v ↔ Pt n (wdM n f g k) v ∧ (g (k + 1) ≤ f (k + 1) → v 0 - v (k + 1) ≤ f (k + 1)) := by
      show Pt n (if g (k + 1) ≤ f (k + 1) then bndZ n (-1) k (f (k + 1)) (wdM n f g k) else wdM n f g k) v ↔ _
      split
      · rename_i hh
        rw [bnd_pt hM (isEnd_nought n) ex, e1, e0]
        exact ⟨fun q => ⟨q.1, fun _ => q.2⟩, fun q => ⟨q.1, q.2 hh⟩⟩
      · rename_i hh
        exact ⟨fun q => ⟨q, fun q' => absurd q' hh⟩, fun q => q.1⟩
    rw [l, m, ih]
    constructor
    · rintro ⟨⟨⟨h1, h2⟩, h3⟩, h4⟩
      have v0 := h1.2.1
      refine ⟨h1, fun i hi => ?_⟩
      by_cases hik : i < k
      · exact h2 i hik
      · obtain rfl : i = k := by omega
        exact ⟨fun q => by have := h3 q; omega, fun q => by have := h4 q; omega⟩
    · rintro ⟨h1, h2⟩
      have v0 := h1.2.1
      refine ⟨⟨⟨h1, fun i hi => h2 i (by omega)⟩, fun q => ?_⟩, fun q => ?_⟩
      · have := (h2 k (by omega)).1 q; omega
      · have := (h2 k (by omega)).2 q; omega
theorem wd_same_ref {n : Int} {f g : Nat → Int} (gf : Good n (false, f)) (gg : Good n (false, g)) : Same (wdP n f g n.toNat) (false, apF n (widTo f g (R n))) := by
  have hn := gf.n0
  have hR := R_le n
  have hRn := R_n hn
  have ht : topN n = n := by unfold topN; omega
  have h0 := gf.hi0
  have h1 := gf.hi1
  dsimp only at h0 h1
  refine good_ext (wdP_good hn f g _) (good_wid gf gg) fun v => ?_
  rw [wdP_pt hn f g v _ (by omega), wid_pt gf]
  have top : Pt n (false, topF n) v ↔ v 0 = 0 ∧ ∀ i, i < R n → -2147483648 ≤ v i ∧ v i ≤ 2147483647 := by
    constructor
    · intro h
      have g := good_top n
      rw [ht] at g
      exact ⟨h.2.1, fun i hi => pt_range g h hi⟩
    · rintro ⟨v0, h⟩
      have := pt_top (n := n) (v := v) v0 (fun i hi => by rw [ht] at hi; exact h i hi)
      rwa [ht] at this
  rw [top]
  constructor
  · rintro ⟨⟨v0, h⟩, k⟩
    refine ⟨v0, fun i hi => ?_⟩
    have hv := h i hi
    unfold wH wL
    by_cases hz : i = 0
    · subst hz; rw [if_pos rfl, if_pos rfl]; omega
    · have := k (i - 1) (by omega)
      rw [show i - 1 + 1 = i by omega] at this
      rw [if_neg hz, if_neg hz]
      refine ⟨?_, ?_⟩
      · split
        · omega
        · exact this.1 (by omega)
      · split
        · omega
        · exact this.2 (by omega)
  · rintro ⟨v0, h⟩
    refine ⟨⟨v0, fun i hi => ?_⟩, fun i hi => ?_⟩
    · have hv := h i hi
      have a := h0 i hi
      have b := h1 i hi
      unfold wH wL at hv
      by_cases hz : i = 0
      · subst hz; omega
      · rw [if_neg hz, if_neg hz] at hv
        obtain ⟨v1, v2⟩ := hv
        refine ⟨?_, ?_⟩
        · split at v2 <;> omega
        · split at v1 <;> omega
    · have hv := h (i + 1) (by omega)
      unfold wH wL at hv
      simp only [if_neg (show ¬ i + 1 = 0 by omega)] at hv
      obtain ⟨v1, v2⟩ := hv
      refine ⟨fun q => ?_, fun q => ?_⟩
      · rw [if_neg (by omega)] at v1; exact v1
      · rw [if_neg (by omega)] at v2; exact v2
def rwithinS : FSpec := fun ds _ => match ds with
  | [.i n, .b c, .f f, .i m, .b e, .f g] => some { val := .one (.sc (.bool (.sym (withinP n c f m e g)))), vc := [0 ≤ n ∧ n ≤ 6, m = n] }
  | _ => none
def rwithinC : Con := con [zA, zA] rwithinS
theorem rwithin_ok : ConOK Try.prog 25 rwithinC := by
  refine fn_ob tt_ok mixed Try.func25 rfl (fun _ _ => by kernel_rfl) (A := fun ds => ⟨fun _ => Cons.of [], fun k => match k, ds with | 6, [.i n, .b c, .f f, .i m, .b e, .f g] => some { ι := Nat, pre := fun _ k => k ≤ (rowsP n).toNat ∧ up (leP f g) (rowsP n).toNat k 0, μ := fun k => 9 - k, st := fun s k => famR s [(5, .one (.sc (.int .i64 (.sym ((k : Nat))))))] [2, 3] [] [2, 3] } | 9, [.i n, .b c, .f f, .i m, .b e, .f g] => some { ι := Nat, pre := fun s k => k ≤ (rowsP n).toNat ∧ up (leP f g) (rowsP n).toNat (slotN s 5) k, μ := fun k => 9 - k, st := fun s k => famR s [(6, .one (.sc (.int .i64 (.sym ((k : Nat))))))] [2, 3, 5] [] [2, 3] } | _, _ => none, fun _ => none⟩) (fun _ _ => cons_nil) (by kernel_rfl) ?_
  intro ds fr
  unfold rwithinS
  split
  · rename_i n c f m e g
    refine kmp (q := (0 : Int) ≤ n ∧ n ≤ (6 : Int) →
 m = n →
 ((n != m) = true → false = withinP n c f m e g) ∧
 ((n != m) = false →
 (c = true → true = withinP n c f m e g) ∧
 (c = false →
 (∃ (i : Nat),
 (i ≤ (rowsP n).toNat ∧ up (leP f g) (rowsP n).toNat i (0 : Nat)) ∧
 (0 : Int) = (↑i : Int) ∧
 n = n ∧ c = c ∧ (∀ (o : Nat), o < nat_lit 49 → f o = f o) ∧ m = m ∧ e = e ∧ ∀ (o : Nat), o < nat_lit 49 → g o = g o) ∧
 ∀ (i : Nat),
 i ≤ (rowsP n).toNat ∧ up (leP f g) (rowsP n).toNat i (0 : Nat) →
 ((decide ((↑i : Int) ≤ n) && !e) = true →
 (∃ (i_1 : Nat),
 (i_1 ≤ (rowsP n).toNat ∧ up (leP f g) (rowsP n).toNat (↑i : Int).toNat i_1) ∧
 (0 : Int) = (↑i_1 : Int) ∧
 (↑i : Int) = (↑i : Int) ∧
 n = n ∧ c = c ∧ (∀ (o : Nat), o < nat_lit 49 → f o = f o) ∧ m = m ∧ e = e ∧ ∀ (o : Nat), o < nat_lit 49 → g o = g o) ∧
 ∀ (i_1 : Nat),
 i_1 ≤ (rowsP n).toNat ∧ up (leP f g) (rowsP n).toNat (↑i : Int).toNat i_1 →
 (decide ((↑i_1 : Int) ≤ n) = true →
 ((0 : Int) ≤ (↑i : Int) ∧ (↑i : Int) < (↑(7 : Nat) : Int)) ∧
 ((0 : Int) ≤ (↑i_1 : Int) ∧ (↑i_1 : Int) < (↑(7 : Nat) : Int)) ∧
 nat_lit 0 + ((↑i : Int).toNat * (7 : Nat) + (↑i_1 : Int).toNat * (1 : Nat)) < nat_lit 49 ∧
 ((0 : Int) ≤ (↑i : Int) ∧ (↑i : Int) < (↑(7 : Nat) : Int)) ∧
 ((0 : Int) ≤ (↑i_1 : Int) ∧ (↑i_1 : Int) < (↑(7 : Nat) : Int)) ∧
 nat_lit 0 + ((↑i : Int).toNat * (7 : Nat) + (↑i_1 : Int).toNat * (1 : Nat)) < nat_lit 49 ∧
 (decide
 (f (nat_lit 0 + ((↑i : Int).toNat * (7 : Nat) + (↑i_1 : Int).toNat * (1 : Nat))) >
 g (nat_lit 0 + ((↑i : Int).toNat * (7 : Nat) + (↑i_1 : Int).toNat * (1 : Nat)))) =
 true →
 false = withinP n c f m e g) ∧
 (decide
 (f (nat_lit 0 + ((↑i : Int).toNat * (7 : Nat) + (↑i_1 : Int).toNat * (1 : Nat))) >
 g (nat_lit 0 + ((↑i : Int).toNat * (7 : Nat) + (↑i_1 : Int).toNat * (1 : Nat)))) =
 false →
 ∃ (j : Nat),
 (j ≤ (rowsP n).toNat ∧ up (leP f g) (rowsP n).toNat (↑i : Int).toNat j) ∧
 (9 : Nat) - j < (9 : Nat) - i_1 ∧
 IntKind.i64.wrap ((↑i_1 : Int) + (1 : Int)) = (↑j : Int) ∧
 (↑i : Int) = (↑i : Int) ∧
 n = n ∧
 c = c ∧
 (∀ (o : Nat), o < nat_lit 49 → f o = f o) ∧
 m = m ∧ e = e ∧ ∀ (o : Nat), o < nat_lit 49 → g o = g o)) ∧
 (decide ((↑i_1 : Int) ≤ n) = false →
 ∃ (j : Nat),
 (j ≤ (rowsP n).toNat ∧ up (leP f g) (rowsP n).toNat j (0 : Nat)) ∧
 (9 : Nat) - j < (9 : Nat) - i ∧
 IntKind.i64.wrap ((↑i : Int) + (1 : Int)) = (↑j : Int) ∧
 n = n ∧ c = c ∧ (∀ (o : Nat), o < nat_lit 49 → f o = f o) ∧ m = m ∧ e = e ∧ ∀ (o : Nat), o < nat_lit 49 → g o = g o)) ∧
 ((decide ((↑i : Int) ≤ n) && !e) = false → (!e) = withinP n c f m e g)))) (by kernel_rfl) ?_
    simp only [raw0, true_and, and_true, implies_true, Nat.mul_one, Int.toNat_natCast, c7, decide_eq_true_eq, decide_eq_false_iff_not, Nat.zero_add, forall_const, Nat.le_eq, at_iff, bne_iff_ne, bne_eq_false_iff_eq, and_self, and_self_left, Nat.reduceAdd]
    intro hn hm
    subst hm
    have hr := rowsP_le m
    have hrn := rows_n hn
    refine ⟨fun h => absurd rfl h, fun _ => ⟨fun hc => ?_, fun hc => ⟨⟨0, ⟨by omega, up_zero _ _⟩, rfl⟩, fun i hi => ⟨fun h1 => ⟨⟨0, ⟨by omega, hi.2⟩, rfl⟩, fun j hj => ⟨fun h2 => ?_, fun h2 => ?_⟩⟩, fun h1 => ?_⟩⟩⟩⟩
    · unfold withinP; rw [if_pos (by rw [hc]; simp), hc]; simp
    · simp only [Bool.and_eq_true, decide_eq_true_eq, Bool.not_eq_true'] at h1
      have ew : withinP m c f m e g = allB (leP f g) (rowsP m).toNat := if_neg (by rw [hc, h1.2]; simp)
      rw [ew]
      refine ⟨by omega, by omega, by omega, by omega, by omega, by omega, fun h3 => ?_, fun h3 => ⟨j + 1, ⟨by omega, up_step hj.2 (by omega) (decide_eq_true (by omega))⟩, by omega, wr _ (by omega)⟩⟩
      exact up_no (m := j) (k := i) (by omega) (by omega) (by omega) (decide_eq_false (by omega))
    · simp only [Bool.and_eq_true, decide_eq_true_eq, Bool.not_eq_true'] at h1
      have e1 : j = (rowsP m).toNat := by omega
      have hj2 := hj.2
      rw [e1] at hj2
      exact ⟨i + 1, ⟨by omega, up_next hj2⟩, by omega, wr _ (by omega)⟩
    · cases he : e with
      | true => unfold withinP; rw [if_pos (by simp), hc]; simp
      | false =>
        have ew : withinP m c f m false g = allB (leP f g) (rowsP m).toNat := if_neg (by rw [hc]; simp)
        rw [ew]
        rw [he] at h1
        simp only [Bool.and_eq_false_iff, decide_eq_false_iff_not, Bool.not_false, Bool.true_eq_false, or_false] at h1
        have e1 : i = (rowsP m).toNat := by omega
        have hi2 := hi.2
        rw [e1] at hi2
        exact up_end hi2
  · trivial
def rjoinS : FSpec := fun ds _ => match ds with
  | [.i n, .b c, .f f, .i m, .b e, .f g] => some { val := .one (.agg [.c (.int .i64 (.sym (n))), .c (.bool (.sym ((jnZ n (c, f) (e, g)).1))), .ints .i64 (.lit 49) ((jnZ n (c, f) (e, g)).2)]), vc := [m = n, Good n (c, f), Good n (e, g)] }
  | _ => none
def rjoinC : Con := con [zA, zA] rjoinS
theorem rjoin_ok : ConOK Try.prog 21 rjoinC := by
  refine fn_ob tt_ok mixed Try.func21 rfl (fun _ _ => by kernel_rfl) (A := fun ds => ⟨fun _ => Cons.of [], fun k => match k, ds with | 6, [.i n, .b c, .f f, .i m, .b e, .f g] => some { ι := Nat, pre := fun _ k => k ≤ (rowsP n).toNat, μ := fun k => 9 - k, st := fun s k => famR s [(5, .one (.sc (.int .i64 (.sym ((k : Nat))))))] [2, 3, 4] [(idOf s 2, .own 32 (zs (.sym n) (.sym c) (jnTo f g (rowsP n).toNat k 0)))] [3, 4] } | 9, [.i n, .b c, .f f, .i m, .b e, .f g] => some { ι := Nat, pre := fun _ k => k ≤ (rowsP n).toNat, μ := fun k => 9 - k, st := fun s k => famR s [(6, .one (.sc (.int .i64 (.sym ((k : Nat))))))] [2, 3, 4, 5] [(idOf s 2, .own 32 (zs (.sym n) (.sym c) (jnTo f g (rowsP n).toNat (slotN s 5) k)))] [3, 4] } | _, _ => none, fun _ => none⟩) (fun _ _ => cons_nil) (by kernel_rfl) ?_
  intro ds fr
  unfold rjoinS
  split
  · rename_i n c f m e g
    refine kmp (q := m = n →
 Good n (c, f) →
 Good n (e, g) →
 (c = true → m = n ∧ e = (jnZ n (c, f) (e, g)).fst ∧ ∀ (o : Nat), o < nat_lit 49 → g o = (jnZ n (c, f) (e, g)).snd o) ∧
 (c = false →
 (e = true → n = n ∧ c = (jnZ n (c, f) (e, g)).fst ∧ ∀ (o : Nat), o < nat_lit 49 → f o = (jnZ n (c, f) (e, g)).snd o) ∧
 (e = false →
 (∃ (i : Nat),
 i.le (rowsP n).toNat ∧
 (0 : Int) = (↑i : Int) ∧
 n = n ∧
 c = c ∧
 (∀ (o : Nat), o < nat_lit 49 → f o = jnTo f g (rowsP n).toNat i (0 : Nat) o) ∧
 m = m ∧
 e = e ∧
 (∀ (o : Nat), o < nat_lit 49 → g o = g o) ∧
 (0 : Int) = (0 : Int) ∧ false = false ∧ ∀ (o : Nat), o < nat_lit 49 → (0 : Int) = (0 : Int)) ∧
 ∀ (i : Nat),
 i.le (rowsP n).toNat →
 (decide ((↑i : Int) ≤ n) = true →
 (∃ (i_1 : Nat),
 i_1.le (rowsP n).toNat ∧
 (0 : Int) = (↑i_1 : Int) ∧
 (↑i : Int) = (↑i : Int) ∧
 n = n ∧
 c = c ∧
 (∀ (o : Nat), o < nat_lit 49 → jnTo f g (rowsP n).toNat i (0 : Nat) o = jnTo f g (rowsP n).toNat (↑i : Int).toNat i_1 o) ∧
 m = m ∧
 e = e ∧
 (∀ (o : Nat), o < nat_lit 49 → g o = g o) ∧
 (0 : Int) = (0 : Int) ∧ false = false ∧ ∀ (o : Nat), o < nat_lit 49 → (0 : Int) = (0 : Int)) ∧
 ∀ (i_1 : Nat),
 i_1.le (rowsP n).toNat →
 (decide ((↑i_1 : Int) ≤ n) = true →
 ((0 : Int) ≤ (↑i : Int) ∧ (↑i : Int) < (↑(7 : Nat) : Int)) ∧
 ((0 : Int) ≤ (↑i_1 : Int) ∧ (↑i_1 : Int) < (↑(7 : Nat) : Int)) ∧
 nat_lit 0 + ((↑i : Int).toNat * (7 : Nat) + (↑i_1 : Int).toNat * (1 : Nat)) < nat_lit 49 ∧
 ((0 : Int) ≤ (↑i : Int) ∧ (↑i : Int) < (↑(7 : Nat) : Int)) ∧
 ((0 : Int) ≤ (↑i_1 : Int) ∧ (↑i_1 : Int) < (↑(7 : Nat) : Int)) ∧
 nat_lit 0 + ((↑i : Int).toNat * (7 : Nat) + (↑i_1 : Int).toNat * (1 : Nat)) < nat_lit 49 ∧
 ((0 : Int) ≤ (↑i : Int) ∧ (↑i : Int) < (↑(7 : Nat) : Int)) ∧
 ((0 : Int) ≤ (↑i_1 : Int) ∧ (↑i_1 : Int) < (↑(7 : Nat) : Int)) ∧
 nat_lit 0 + ((↑i : Int).toNat * (7 : Nat) + (↑i_1 : Int).toNat * (1 : Nat)) + (1 : Nat) ≤ nat_lit 49 ∧
 ∃ (j : Nat),
 j.le (rowsP n).toNat ∧
 (9 : Nat) - j < (9 : Nat) - i_1 ∧
 IntKind.i64.wrap ((↑i_1 : Int) + (1 : Int)) = (↑j : Int) ∧
 (↑i : Int) = (↑i : Int) ∧
 n = n ∧
 c = c ∧
 (∀ (o : Nat),
 o < nat_lit 49 →
 (if
 ((nat_lit 0 + ((↑i : Int).toNat * (7 : Nat) + (↑i_1 : Int).toNat * (1 : Nat))).ble
 o &&
 o.blt
 (nat_lit 0 +
 ((↑i : Int).toNat * (7 : Nat) + (↑i_1 : Int).toNat * (1 : Nat)) +
 (1 : Nat))) =
 true then
 if
 g
 (nat_lit 0 +
 ((↑i : Int).toNat * (7 : Nat) + (↑i_1 : Int).toNat * (1 : Nat))) >
 jnTo f g (rowsP n).toNat (↑i : Int).toNat i_1
 (nat_lit 0 +
 ((↑i : Int).toNat * (7 : Nat) + (↑i_1 : Int).toNat * (1 : Nat))) then
 g (nat_lit 0 + ((↑i : Int).toNat * (7 : Nat) + (↑i_1 : Int).toNat * (1 : Nat)))
 else
 jnTo f g (rowsP n).toNat (↑i : Int).toNat i_1
 (nat_lit 0 + ((↑i : Int).toNat * (7 : Nat) + (↑i_1 : Int).toNat * (1 : Nat)))
 else jnTo f g (rowsP n).toNat (↑i : Int).toNat i_1 o) =
 jnTo f g (rowsP n).toNat (↑i : Int).toNat j o) ∧
 m = m ∧
 e = e ∧
 (∀ (o : Nat), o < nat_lit 49 → g o = g o) ∧
 (0 : Int) = (0 : Int) ∧
 false = false ∧ ∀ (o : Nat), o < nat_lit 49 → (0 : Int) = (0 : Int)) ∧
 (decide ((↑i_1 : Int) ≤ n) = false →
 ∃ (j : Nat),
 j.le (rowsP n).toNat ∧
 (9 : Nat) - j < (9 : Nat) - i ∧
 IntKind.i64.wrap ((↑i : Int) + (1 : Int)) = (↑j : Int) ∧
 n = n ∧
 c = c ∧
 (∀ (o : Nat),
 o < nat_lit 49 → jnTo f g (rowsP n).toNat (↑i : Int).toNat i_1 o = jnTo f g (rowsP n).toNat j (0 : Nat) o) ∧
 m = m ∧
 e = e ∧
 (∀ (o : Nat), o < nat_lit 49 → g o = g o) ∧
 (0 : Int) = (0 : Int) ∧ false = false ∧ ∀ (o : Nat), o < nat_lit 49 → (0 : Int) = (0 : Int))) ∧
 (decide ((↑i : Int) ≤ n) = false →
 n = n ∧
 c = (jnZ n (c, f) (e, g)).fst ∧ ∀ (o : Nat), o < nat_lit 49 → jnTo f g (rowsP n).toNat i (0 : Nat) o = (jnZ n (c, f) (e, g)).snd o)))) (by kernel_rfl) ?_
    simp only [raw0, true_and, and_true, implies_true, Nat.mul_one, Int.toNat_natCast, c7, decide_eq_true_eq, decide_eq_false_iff_not, Nat.zero_add, forall_const, Nat.le_eq, at_iff, bne_iff_ne, bne_eq_false_iff_eq, and_self, and_self_left, Nat.reduceAdd]
    intro hm gf gg
    subst hm
    have hn := gf.n0
    have hr := rowsP_le m
    have hrn := rows_n hn
    refine ⟨fun hc => ?_, fun hc => ⟨fun he => ?_, fun he => ⟨⟨0, by omega, rfl, fun o ho => ?_⟩, fun i hi => ⟨fun h1 => ⟨⟨0, by omega, rfl, fun _ _ => rfl⟩, fun j hj => ⟨fun h2 => ?_, fun h2 => ?_⟩⟩, fun h1 => ?_⟩⟩⟩⟩
    · refine ⟨rfl, ?_⟩
      cases he : e with
      | true =>
        subst hc he
        rw [jn_none rfl]
        exact ⟨rfl, fun o ho => (gg.none rfl o ho).trans (gf.none rfl o ho).symm⟩
      | false =>
        subst hc he
        rw [jn_nought rfl rfl]
        exact ⟨rfl, fun _ _ => rfl⟩
    · subst hc he
      rw [jn_none rfl]
      exact ⟨rfl, fun _ _ => rfl⟩
    · unfold jnTo; rw [if_neg (by omega)]
    · refine ⟨by omega, by omega, by omega, by omega, by omega, by omega, by omega, by omega, by omega, j + 1, by omega, by omega, wr _ (by omega), fun o ho => ?_⟩
      have h7 := dm7 (k := i) (m := j) (by omega)
      have e1 : jnTo f g (rowsP m).toNat i j (i * 7 + j) = f (i * 7 + j) := by unfold jnTo; rw [h7.1, h7.2, if_neg (by omega)]
      rw [e1]
      by_cases h : o = i * 7 + j
      · rw [if_pos h, h]
        have e2 : jnTo f g (rowsP m).toNat i (j + 1) (i * 7 + j) = max (f (i * 7 + j)) (g (i * 7 + j)) := by unfold jnTo; rw [h7.1, h7.2, if_pos (by omega)]
        rw [e2]
        split <;> omega
      · rw [if_neg h]; unfold jnTo; exact icg (by omega) rfl rfl
    · exact ⟨i + 1, by omega, by omega, wr _ (by omega), fun o ho => by unfold jnTo; exact icg (by omega) rfl rfl⟩
    · subst hc he
      have e1 : i = (rowsP m).toNat := by omega
      subst e1
      refine ⟨((jn_both (n := m) (a := (false, f)) (b := (false, g)) rfl rfl).1).symm, fun o ho => ?_⟩
      unfold jnZ jnF
      exact ((if_neg (by simp)).trans (if_neg (by simp))).symm
  · trivial
def rwidenS : FSpec := fun ds _ => match ds with
  | [.i n, .b c, .f f, .i m, .b e, .f g] => some { val := .one (.agg [.c (.int .i64 (.sym (n))), .c (.bool (.sym ((wdZ n (c, f) (e, g)).1))), .ints .i64 (.lit 49) ((wdZ n (c, f) (e, g)).2)]), vc := [m = n, Good n (c, f), Good n (e, g)] }
  | _ => none
def rwidenC : Con := con [zA, zA] rwidenS
theorem rwiden_ok : ConOK Try.prog 23 rwidenC := by
  refine fn_ob tt_ok mixed Try.func23 rfl (fun _ _ => by kernel_rfl) (A := fun ds => ⟨fun _ => Cons.of [(25, rwithinC), (12, rtopC), (43, rboundC)], fun k => match k, ds with | 7, [.i n, .b c, .f f, .i m, .b e, .f g] => some { ι := Nat, pre := fun _ k => k ≤ n.toNat, μ := fun k => 9 - k, st := fun s k => famR s [(6, .one (.sc (.int .i64 (.sym ((k : Nat))))))] [2, 3, 4, 5] [(idOf s 5, .own 32 (zs (.sym n) (.sym (wdP n f g k).1) (wdP n f g k).2))] [2, 3, 4] } | _, _ => none, fun k => match k, ds with | 11, [.i n, .b c, .f f, .i m, .b e, .f g] => some { ι := Bool, pre := fun _ _ => True, μ := fun _ => 0, st := fun s _ => famR s [] [2, 3, 4, 5, 6] [(idOf s 5, .own 32 (zs (.sym n) (.sym (wdM n f g (slotN s 6)).1) (wdM n f g (slotN s 6)).2))] [2, 3, 4] } | _, _ => none⟩) (fun _ _ => (cons_cons rwithin_ok (cons_cons rtop_ok (cons_cons rbound_ok cons_nil)))) (by kernel_rfl) ?_
  intro ds fr
  unfold rwidenS
  split
  · rename_i n c f m e g
    refine kmp (q := m = n →
 Good n (c, f) →
 Good n (e, g) →
 (c = true → m = n ∧ e = (wdZ n (c, f) (e, g)).fst ∧ ∀ (o : Nat), o < nat_lit 49 → g o = (wdZ n (c, f) (e, g)).snd o) ∧
 (c = false →
 ((0 : Int) ≤ m ∧ m ≤ (6 : Int)) ∧
 n = m ∧
 (withinP m e g n c f = true → n = n ∧ c = (wdZ n (c, f) (e, g)).fst ∧ ∀ (o : Nat), o < nat_lit 49 → f o = (wdZ n (c, f) (e, g)).snd o) ∧
 (withinP m e g n c f = false →
 (∃ (i : Nat),
 i.le n.toNat ∧
 (0 : Int) = (↑i : Int) ∧
 topN n = n ∧
 false = (wdP n f g i).fst ∧
 (∀ (o : Nat), o < nat_lit 49 → topF n o = (wdP n f g i).snd o) ∧
 n = n ∧
 c = c ∧
 (∀ (o : Nat), o < nat_lit 49 → f o = f o) ∧
 m = m ∧
 e = e ∧
 (∀ (o : Nat), o < nat_lit 49 → g o = g o) ∧
 (0 : Int) = (0 : Int) ∧ false = false ∧ ∀ (o : Nat), o < nat_lit 49 → (0 : Int) = (0 : Int)) ∧
 ∀ (i : Nat),
 i.le n.toNat →
 (decide ((↑i : Int) < n) = true →
 (((0 : Int) ≤ IntKind.i64.wrap ((↑i : Int) + (1 : Int)) ∧ IntKind.i64.wrap ((↑i : Int) + (1 : Int)) < (↑(7 : Nat) : Int)) ∧
 nat_lit 0 + (IntKind.i64.wrap ((↑i : Int) + (1 : Int))).toNat * (7 : Nat) < nat_lit 49 ∧
 ((0 : Int) ≤ IntKind.i64.wrap ((↑i : Int) + (1 : Int)) ∧ IntKind.i64.wrap ((↑i : Int) + (1 : Int)) < (↑(7 : Nat) : Int)) ∧
 nat_lit 0 + (IntKind.i64.wrap ((↑i : Int) + (1 : Int))).toNat * (7 : Nat) < nat_lit 49 ∧
 (decide
 (g (nat_lit 0 + (IntKind.i64.wrap ((↑i : Int) + (1 : Int))).toNat * (7 : Nat)) ≤
 f (nat_lit 0 + (IntKind.i64.wrap ((↑i : Int) + (1 : Int))).toNat * (7 : Nat))) =
 true →
 ((0 : Int) ≤ IntKind.i64.wrap ((↑i : Int) + (1 : Int)) ∧
 IntKind.i64.wrap ((↑i : Int) + (1 : Int)) < (↑(7 : Nat) : Int)) ∧
 nat_lit 0 + (IntKind.i64.wrap ((↑i : Int) + (1 : Int))).toNat * (7 : Nat) < nat_lit 49 ∧
 Good n ((wdP n f g i).fst, (wdP n f g i).snd) ∧
 isEndP n (↑i : Int) = true ∧
 isEndP n (-1 : Int) = true ∧
 (↑i : Int) ≠ (-1 : Int) ∧
 (-4294967296 : Int) ≤ f (nat_lit 0 + (IntKind.i64.wrap ((↑i : Int) + (1 : Int))).toNat * (7 : Nat)) ∧
 ∃ (i_1 : Bool),
 True ∧
 (↑i : Int) = (↑i : Int) ∧
 n = n ∧
 (bndZ n (↑i : Int) (-1 : Int)
 (f (nat_lit 0 + (IntKind.i64.wrap ((↑i : Int) + (1 : Int))).toNat * (7 : Nat)))
 ((wdP n f g i).fst, (wdP n f g i).snd)).fst =
 (wdM n f g (↑i : Int).toNat).fst ∧
 (∀ (o : Nat),
 o < nat_lit 49 →
 (bndZ n (↑i : Int) (-1 : Int)
 (f (nat_lit 0 + (IntKind.i64.wrap ((↑i : Int) + (1 : Int))).toNat * (7 : Nat)))
 ((wdP n f g i).fst, (wdP n f g i).snd)).snd
 o =
 (wdM n f g (↑i : Int).toNat).snd o) ∧
 n = n ∧
 c = c ∧
 (∀ (o : Nat), o < nat_lit 49 → f o = f o) ∧
 m = m ∧
 e = e ∧
 (∀ (o : Nat), o < nat_lit 49 → g o = g o) ∧
 (0 : Int) = (0 : Int) ∧
 false = false ∧ ∀ (o : Nat), o < nat_lit 49 → (0 : Int) = (0 : Int)) ∧
 (decide
 (g (nat_lit 0 + (IntKind.i64.wrap ((↑i : Int) + (1 : Int))).toNat * (7 : Nat)) ≤
 f (nat_lit 0 + (IntKind.i64.wrap ((↑i : Int) + (1 : Int))).toNat * (7 : Nat))) =
 false →
 ∃ (i_1 : Bool),
 True ∧
 (↑i : Int) = (↑i : Int) ∧
 n = n ∧
 (wdP n f g i).fst = (wdM n f g (↑i : Int).toNat).fst ∧
 (∀ (o : Nat), o < nat_lit 49 → (wdP n f g i).snd o = (wdM n f g (↑i : Int).toNat).snd o) ∧
 n = n ∧
 c = c ∧
 (∀ (o : Nat), o < nat_lit 49 → f o = f o) ∧
 m = m ∧
 e = e ∧
 (∀ (o : Nat), o < nat_lit 49 → g o = g o) ∧
 (0 : Int) = (0 : Int) ∧
 false = false ∧ ∀ (o : Nat), o < nat_lit 49 → (0 : Int) = (0 : Int))) ∧
 ∀ (i_1 : Bool),
 True →
 ((0 : Int) ≤ IntKind.i64.wrap ((↑i : Int) + (1 : Int)) ∧ IntKind.i64.wrap ((↑i : Int) + (1 : Int)) < (↑(7 : Nat) : Int)) ∧
 nat_lit 0 + (IntKind.i64.wrap ((↑i : Int) + (1 : Int))).toNat * (1 : Nat) < nat_lit 49 ∧
 ((0 : Int) ≤ IntKind.i64.wrap ((↑i : Int) + (1 : Int)) ∧ IntKind.i64.wrap ((↑i : Int) + (1 : Int)) < (↑(7 : Nat) : Int)) ∧
 nat_lit 0 + (IntKind.i64.wrap ((↑i : Int) + (1 : Int))).toNat * (1 : Nat) < nat_lit 49 ∧
 (decide
 (g (nat_lit 0 + (IntKind.i64.wrap ((↑i : Int) + (1 : Int))).toNat * (1 : Nat)) ≤
 f (nat_lit 0 + (IntKind.i64.wrap ((↑i : Int) + (1 : Int))).toNat * (1 : Nat))) =
 true →
 ((0 : Int) ≤ IntKind.i64.wrap ((↑i : Int) + (1 : Int)) ∧
 IntKind.i64.wrap ((↑i : Int) + (1 : Int)) < (↑(7 : Nat) : Int)) ∧
 nat_lit 0 + (IntKind.i64.wrap ((↑i : Int) + (1 : Int))).toNat * (1 : Nat) < nat_lit 49 ∧
 Good n ((wdM n f g (↑i : Int).toNat).fst, (wdM n f g (↑i : Int).toNat).snd) ∧
 isEndP n (-1 : Int) = true ∧
 isEndP n (↑i : Int) = true ∧
 (-1 : Int) ≠ (↑i : Int) ∧
 (-4294967296 : Int) ≤ f (nat_lit 0 + (IntKind.i64.wrap ((↑i : Int) + (1 : Int))).toNat * (1 : Nat)) ∧
 ∃ (j : Nat),
 j.le n.toNat ∧
 (9 : Nat) - j < (9 : Nat) - i ∧
 IntKind.i64.wrap ((↑i : Int) + (1 : Int)) = (↑j : Int) ∧
 n = n ∧
 (bndZ n (-1 : Int) (↑i : Int)
 (f (nat_lit 0 + (IntKind.i64.wrap ((↑i : Int) + (1 : Int))).toNat * (1 : Nat)))
 ((wdM n f g (↑i : Int).toNat).fst, (wdM n f g (↑i : Int).toNat).snd)).fst =
 (wdP n f g j).fst ∧
 (∀ (o : Nat),
 o < nat_lit 49 →
 (bndZ n (-1 : Int) (↑i : Int)
 (f
 (nat_lit 0 +
 (IntKind.i64.wrap ((↑i : Int) + (1 : Int))).toNat * (1 : Nat)))
 ((wdM n f g (↑i : Int).toNat).fst, (wdM n f g (↑i : Int).toNat).snd)).snd
 o =
 (wdP n f g j).snd o) ∧
 n = n ∧
 c = c ∧
 (∀ (o : Nat), o < nat_lit 49 → f o = f o) ∧
 m = m ∧
 e = e ∧
 (∀ (o : Nat), o < nat_lit 49 → g o = g o) ∧
 (0 : Int) = (0 : Int) ∧
 false = false ∧ ∀ (o : Nat), o < nat_lit 49 → (0 : Int) = (0 : Int)) ∧
 (decide
 (g (nat_lit 0 + (IntKind.i64.wrap ((↑i : Int) + (1 : Int))).toNat * (1 : Nat)) ≤
 f (nat_lit 0 + (IntKind.i64.wrap ((↑i : Int) + (1 : Int))).toNat * (1 : Nat))) =
 false →
 ∃ (j : Nat),
 j.le n.toNat ∧
 (9 : Nat) - j < (9 : Nat) - i ∧
 IntKind.i64.wrap ((↑i : Int) + (1 : Int)) = (↑j : Int) ∧
 n = n ∧
 (wdM n f g (↑i : Int).toNat).fst = (wdP n f g j).fst ∧
 (∀ (o : Nat), o < nat_lit 49 → (wdM n f g (↑i : Int).toNat).snd o = (wdP n f g j).snd o) ∧
 n = n ∧
 c = c ∧
 (∀ (o : Nat), o < nat_lit 49 → f o = f o) ∧
 m = m ∧
 e = e ∧
 (∀ (o : Nat), o < nat_lit 49 → g o = g o) ∧
 (0 : Int) = (0 : Int) ∧
 false = false ∧ ∀ (o : Nat), o < nat_lit 49 → (0 : Int) = (0 : Int))) ∧
 (decide ((↑i : Int) < n) = false →
 n = n ∧
 (wdP n f g i).fst = (wdZ n (c, f) (e, g)).fst ∧ ∀ (o : Nat), o < nat_lit 49 → (wdP n f g i).snd o = (wdZ n (c, f) (e, g)).snd o)))) (by kernel_rfl) ?_
    simp only [raw0, true_and, and_true, implies_true, Nat.mul_one, Int.toNat_natCast, c7, decide_eq_true_eq, decide_eq_false_iff_not, Nat.zero_add, forall_const, Nat.le_eq, at_iff, bne_iff_ne, bne_eq_false_iff_eq, and_self, and_self_left, Nat.reduceAdd]
    intro hm gf gg
    subst hm
    have hn := gf.n0
    have hr := rowsP_le m
    have hrn := rows_n hn
    have hRn := R_n hn
    have ht : topN m = m := by unfold topN; omega
    have hR := R_le m
    refine ⟨fun hc => ?_, fun hc => ⟨hn, rfl, fun hw => ?_, fun hw => ⟨⟨0, by omega, rfl, ht, rfl, fun _ _ => rfl⟩, fun i hi => ⟨fun h1 => ?_, fun h1 => ?_⟩⟩⟩⟩
    · refine ⟨rfl, ?_⟩
      subst hc
      by_cases hw : Wi m (e, g) (true, f)
      · rw [wd_same hw]
        rcases hw with hw | ⟨h, _⟩
        · have : e = true := hw
          subst this
          exact ⟨rfl, fun o ho => (gg.none rfl o ho).trans (gf.none rfl o ho).symm⟩
        · cases h
      · rw [wd_nought hw rfl]; exact ⟨rfl, fun _ _ => rfl⟩
    · have h := (wi_iff (n := m) (z := (e, g)) (w := (c, f))).1 hw
      rw [wd_same h]; exact ⟨rfl, fun _ _ => rfl⟩
    · rw [wr ((i : Int) + 1) (by omega), show ((i : Int) + 1).toNat = i + 1 by omega]
      have gP := wdP_good hn f g i
      have gM := wdM_good hn f g i
      have ex := isEnd_of (x := (i : Int)) hn (by omega)
      have l1 := gf.low (i := i + 1) (j := 0) (by omega) (by omega)
      have l2 := gf.low (i := 0) (j := i + 1) (by omega) (by omega)
      rw [Nat.add_zero] at l1
      rw [Nat.zero_mul, Nat.zero_add] at l2
      dsimp only at l1 l2
      refine ⟨⟨by omega, by omega, by omega, by omega, fun h2 => ⟨by omega, by omega, gP, ex, isEnd_nought m, by omega, by omega, true, ?_⟩, fun h2 => ⟨true, ?_⟩⟩, by omega, by omega, by omega, by omega, fun h2 => ⟨by omega, by omega, gM, isEnd_nought m, ex, by omega, by omega, i + 1, by omega, by omega, by omega, ?_⟩, fun h2 => ⟨i + 1, by omega, by omega, by omega, ?_⟩⟩
      · have e : wdM m f g i = bndZ m i (-1) (f ((i + 1) * 7)) (wdP m f g i) := if_pos h2
        rw [e]; exact ⟨rfl, fun _ _ => rfl⟩
      · have e : wdM m f g i = wdP m f g i := if_neg h2
        rw [e]; exact ⟨rfl, fun _ _ => rfl⟩
      · have e : wdP m f g (i + 1) = bndZ m (-1) i (f (i + 1)) (wdM m f g i) := if_pos h2
        rw [e]; exact ⟨rfl, fun _ _ => rfl⟩
      · have e : wdP m f g (i + 1) = wdM m f g i := if_neg h2
        rw [e]; exact ⟨rfl, fun _ _ => rfl⟩
    · have hnw : ¬ Wi m (e, g) (c, f) := fun h => by
        have := (wi_iff (n := m) (z := (e, g)) (w := (c, f))).2 h
        dsimp only at this
        rw [hw] at this; cases this
      obtain ⟨hb, ew⟩ := wd_both hnw hc
      have hb' : e = false := hb
      subst hc hb'
      rw [ew, show i = m.toNat by omega]
      exact wd_same_ref gf gg
  · trivial
end Go.Proofs.Ytefdfggkhnahiaa.Sx.Z
