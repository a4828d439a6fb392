/-
  ZoneWidens' contract: at most fourteen others.
-/
import Derived.Test.YtmdoafhohflhdaaYp
namespace Go.Proofs.Ytmdoafhohflhdaa.Sx.Z
open Go.RowKit
/-- How many bounds of a variable are not given up. -/
def fin1 (n : Int) (f : Nat → Int) (i : Nat) : Nat := (if i < R n ∧ f (i * 7) < 2147483647 then 1 else 0) + (if i < R n ∧ f i < 2147483648 then 1 else 0)
def fin (n : Int) (f : Nat → Int) : Nat := fin1 n f 1 + fin1 n f 2 + fin1 n f 3 + fin1 n f 4 + fin1 n f 5 + fin1 n f 6
def box (n : Int) (f : Nat → Int) : Prop := ∀ i j, i < R n → j < R n → i ≠ j → f (i * 7 + j) = f (i * 7) + f j
def PW (n : Int) (c : Nat) (z : Zs) : Prop := (z.1 = true ∧ c = 0) ∨ (z.1 = false ∧ c + fin n z.2 ≤ 14 ∧ (c + fin n z.2 ≤ 13 ∨ box n z.2))
theorem fin1_le (n : Int) (f : Nat → Int) (i : Nat) : fin1 n f i ≤ 2 := by
  unfold fin1
  have a : (if i < R n ∧ f (i * 7) < 2147483647 then 1 else 0) ≤ 1 := by split <;> omega
  have b : (if i < R n ∧ f i < 2147483648 then 1 else 0) ≤ 1 := by split <;> omega
  omega
theorem fin_le (n : Int) (f : Nat → Int) : fin n f ≤ 12 := by
  unfold fin
  have h := fin1_le n f
  have h1 := h 1
  have h2 := h 2
  have h3 := h 3
  have h4 := h 4
  have h5 := h 5
  have h6 := h 6
  omega
theorem fin_mono {n : Int} {f g : Nat → Int} (h : ∀ i, 1 ≤ i → i < R n → (g (i * 7) = f (i * 7) ∨ g (i * 7) = 2147483647) ∧ (g i = f i ∨ g i = 2147483648)) : fin n g ≤ fin n f ∧ ∀ i, 1 ≤ i → i < R n → ((f (i * 7) < 2147483647 ∧ g (i * 7) = 2147483647) ∨ (f i < 2147483648 ∧ g i = 2147483648)) → fin n g + 1 ≤ fin n f := by
  have hR := R_le n
  have one : ∀ i, 1 ≤ i → fin1 n g i ≤ fin1 n f i ∧ (i < R n → ((f (i * 7) < 2147483647 ∧ g (i * 7) = 2147483647) ∨ (f i < 2147483648 ∧ g i = 2147483648)) → fin1 n g i + 1 ≤ fin1 n f i) := fun i hi => by
    unfold fin1
    by_cases hr : i < R n
    · have hh := h i hi hr
      simp only [hr, true_and]
      have a : (if g (i * 7) < 2147483647 then 1 else 0) ≤ (if f (i * 7) < 2147483647 then 1 else 0) := by (repeat' split) <;> omega
      have b : (if g i < 2147483648 then 1 else 0) ≤ (if f i < 2147483648 then 1 else 0) := by (repeat' split) <;> omega
      refine ⟨by omega, fun _ hx => ?_⟩
      rcases hx with ⟨x1, x2⟩ | ⟨x1, x2⟩
      · have e1 : (if g (i * 7) < 2147483647 then 1 else 0) = 0 := if_neg (by omega)
        have e2 : (if f (i * 7) < 2147483647 then 1 else 0) = 1 := if_pos x1
        omega
      · have e1 : (if g i < 2147483648 then 1 else 0) = 0 := if_neg (by omega)
        have e2 : (if f i < 2147483648 then 1 else 0) = 1 := if_pos x1
        omega
    · exact ⟨by simp [hr], fun h => absurd h hr⟩
  have o1 := one 1 (by omega)
  have o2 := one 2 (by omega)
  have o3 := one 3 (by omega)
  have o4 := one 4 (by omega)
  have o5 := one 5 (by omega)
  have o6 := one 6 (by omega)
  unfold fin
  refine ⟨by omega, fun i hi hr hx => ?_⟩
  have : i = 1 ∨ i = 2 ∨ i = 3 ∨ i = 4 ∨ i = 5 ∨ i = 6 := by omega
  rcases this with rfl | rfl | rfl | rfl | rfl | rfl
  · have := o1.2 hr hx; omega
  · have := o2.2 hr hx; omega
  · have := o3.2 hr hx; omega
  · have := o4.2 hr hx; omega
  · have := o5.2 hr hx; omega
  · have := o6.2 hr hx; omega
theorem wH_pos {f g : Nat → Int} {i : Nat} (h : 1 ≤ i) : wH f g i = if g (i * 7) > f (i * 7) then 2147483647 else f (i * 7) := if_neg (by omega)
theorem wL_pos {f g : Nat → Int} {i : Nat} (h : 1 ≤ i) : wL f g i = if g i > f i then 2147483648 else f i := if_neg (by omega)
theorem pw_step {n : Int} {c : Nat} {z x : Zs} (gz : Good n z) (gx : Good n x) (h : PW n c z) : wdZ n z (jnZ n z x) = z ∨ (PW n (c + 1) (wdZ n z (jnZ n z x)) ∧ PW n c (wdZ n z (jnZ n z x))) := by
  have hR := R_le n
  by_cases hw : Wi n (jnZ n z x) z
  · exact .inl (wd_same hw)
  · right
    rcases h with ⟨h1, h2⟩ | ⟨h1, h2, h3⟩
    · rw [wd_nought hw h1]
      cases hx : x.1 with
      | true => rw [jn_none hx] at hw; exact absurd (wi_refl n z) hw
      | false =>
        rw [jn_nought hx h1]
        have := fin_le n x.2
        exact ⟨.inr ⟨hx, by omega, .inl (by omega)⟩, .inr ⟨hx, by omega, .inl (by omega)⟩⟩
    · obtain ⟨hb, ew⟩ := wd_both hw h1
      have gj := good_jn gz gx
      rw [ew]
      generalize jnZ n z x = j at *
      obtain ⟨cz, f⟩ := z
      obtain ⟨cj, g⟩ := j
      dsimp only at h1 hb h2 h3 ew
      subst h1 hb
      have hd := gz.diag
      have f0 := gz.hi0
      have f1 := gz.hi1
      have g0 := gj.hi0
      have g1 := gj.hi1
      have gt := gj.tri
      have gd := gj.diag
      dsimp only at hd f0 f1 g0 g1 gt gd ⊢
      have at' := fun {i j : Nat} (hi : i < R n) (hj : j < R n) => wid_at (g := g) hd hi hj
      have z0 : wH f g 0 = 0 := if_pos rfl
      have z1 : wL f g 0 = 0 := if_pos rfl
      have r0 : ∀ i, 1 ≤ i → i < R n → apF n (widTo f g (R n)) (i * 7) = wH f g i := fun i h1 hi => by
        have := at' hi (show 0 < R n by omega)
        rw [Nat.add_zero, if_neg (by omega), z1] at this
        rw [this]; omega
      have r1 : ∀ i, 1 ≤ i → i < R n → apF n (widTo f g (R n)) i = wL f g i := fun i h1 hi => by
        have := at' (show 0 < R n by omega) hi
        rw [Nat.zero_mul, Nat.zero_add, if_neg (by omega), z0] at this
        rw [this]; omega
      obtain ⟨m1, m2⟩ := fin_mono (n := n) (f := f) (g := apF n (widTo f g (R n))) (fun i h1 hi => by
        rw [r0 i h1 hi, r1 i h1 hi, wH_pos h1, wL_pos h1]
        exact ⟨by split <;> omega, by split <;> omega⟩)
      have hbox : box n (apF n (widTo f g (R n))) := fun i j hi hj hne => by
        rw [at' hi hj, if_neg hne]
        by_cases e1 : i = 0
        · subst e1
          rw [Nat.zero_mul, r1 j (by omega) hj, z0]
          have := at' (show 0 < R n by omega) (show 0 < R n by omega)
          rw [Nat.zero_mul, Nat.zero_add, if_pos rfl] at this
          rw [this]
        · by_cases e2 : j = 0
          · subst e2
            rw [r0 i (by omega) hi, z1]
            have := at' (show 0 < R n by omega) (show 0 < R n by omega)
            rw [Nat.zero_mul, Nat.zero_add, if_pos rfl] at this
            rw [this]
          · rw [r0 i (by omega) hi, r1 j (by omega) hj]
      have key : c + 1 + fin n (apF n (widTo f g (R n))) ≤ 14 := by
        by_cases hex : ∃ i, 1 ≤ i ∧ i < R n ∧ (g (i * 7) > f (i * 7) ∨ g i > f i)
        · obtain ⟨i, h1, hi, hx⟩ := hex
          have := m2 i h1 hi (by
            rw [r0 i h1 hi, r1 i h1 hi, wH_pos h1, wL_pos h1]
            have a := g0 i hi
            have b := g1 i hi
            rcases hx with hx | hx
            · exact .inl ⟨by omega, by rw [if_pos hx]⟩
            · exact .inr ⟨by omega, by rw [if_pos hx]⟩)
          omega
        · rcases h3 with h3 | h3
          · omega
          · exfalso
            refine hw (.inr ⟨rfl, rfl, fun i j hi hj => ?_⟩)
            dsimp only
            have no : ∀ i, i < R n → g (i * 7) ≤ f (i * 7) ∧ g i ≤ f i := fun i hi => by
              by_cases h1 : 1 ≤ i
              · refine ⟨Int.not_lt.1 fun h => hex ⟨i, h1, hi, .inl h⟩, Int.not_lt.1 fun h => hex ⟨i, h1, hi, .inr h⟩⟩
              · obtain rfl : i = 0 := by omega
                have a := hd 0 hi
                have b := gd 0 hi
                rw [Nat.zero_mul, Nat.zero_add] at a b
                rw [Nat.zero_mul]; omega
            by_cases e : i = j
            · subst e; rw [hd i hi, gd i hi]; exact Int.le_refl _
            · have t := gt i j 0 hi hj (by omega)
              unfold Z.tri at t
              rw [Nat.add_zero, Nat.zero_mul, Nat.zero_add] at t
              have a := no i hi
              have b := no j hj
              have := h3 i j hi hj e
              omega
      exact ⟨.inr ⟨rfl, key, .inr hbox⟩, .inr ⟨rfl, by dsimp only; omega, .inl (by dsimp only; omega)⟩⟩
def zwidensS : FSpec := fun ds _ => match ds with
  | [.i n, .d rows] => some { val := .one (.sc (.bool (.sym (true)))), vc := [] }
  | _ => none
def zwidensC : Con := con [iA, .sc (.rows 22)] zwidensS
theorem zwidens_ok : ConOK Try.prog 6 zwidensC := by
  refine fn_ob tt_ok mixed Try.func6 rfl (fun _ _ => by kernel_rfl) (A := fun ds => ⟨fun _ => Cons.of [(14, zerosC), (21, boundC), (12, topC), (32, zerosOfC), (18, applyC), (16, copiesC), (25, joinC), (26, widenC), (30, withinC)], fun k => match k, ds with | 7, [.i n, .d rows] => some { ι := Nat × Nat × Zs, pre := fun _ q => q.1 ≤ 40 ∧ Good (kz n) q.2.2 ∧ PW (kz n) q.2.1 q.2.2, μ := fun q => 41 - q.1, st := fun s q => famR s [(8, .one (.sc (.int .i64 (.sym ((q.1 : Nat)))))), (7, .one (.sc (.int .i64 (.sym ((q.2.1 : Nat))))))] [1, 5, 6] [(idOf s 6, .own 27 (zs (.sym (kz n)) (.sym (q.2.2).1) (q.2.2).2))] [] } | _, _ => none, fun k => match k, ds with | 5, [.i n, .d rows] => some { ι := Zs, pre := fun _ q => Good (kz n) q ∧ PW (kz n) 0 q, μ := fun _ => 0, st := fun s q => famR s [(5, .one (.sc (.int .i64 (.sym (kz n)))))] [1, 6] [(idOf s 6, .own 27 (zs (.sym (kz n)) (.sym (q).1) (q).2))] [] } | 10, [.i n, .d rows] => some { ι := Bool, pre := fun _ _ => True, μ := fun _ => 0, st := fun s _ => famR s [(9, .one (.sc (.ptr (s.nx - 1) (.lit 0)))), (11, .one (.sc (.bool (.sym (true)))))] [1, 5, 6, 7, 8] [(s.nx - 1, .own 27 (zs (.sym (kz n)) (.sym (actsZ (kz n) (rows.el (slotN s 8) 0) (false, fun _ => 0)).1) (actsZ (kz n) (rows.el (slotN s 8) 0) (false, fun _ => 0)).2))] [6] } | _, _ => none⟩) (fun _ _ => (cons_cons zeros_ok (cons_cons bound_ok (cons_cons top_ok (cons_cons zerosOf_ok (cons_cons apply_ok (cons_cons copies_ok (cons_cons join_ok (cons_cons widen_ok (cons_cons within_ok cons_nil)))))))))) (by kernel_rfl) ?_
  intro ds fr
  unfold zwidensS
  split
  · rename_i n rows
    refine kmp (q := (Sm fun (x : Nat) => (0 : Int)) ∧
 (((IntKind.i64.wrap ((IntKind.u64.wrap n).tmod (7 : Int)) == (0 : Int)) = true →
 ∃ (i : Bool × (Nat → Int)),
 (Good (kz n) i ∧ PW (kz n) (0 : Nat) i) ∧
 IntKind.i64.wrap ((IntKind.u64.wrap n).tmod (7 : Int)) = kz n ∧
 rows.rows = rows.rows ∧ topN (0 : Int) = kz n ∧ false = i.fst ∧ ∀ (o : Nat), o < nat_lit 49 → topF (0 : Int) o = i.snd o) ∧
 ((IntKind.i64.wrap ((IntKind.u64.wrap n).tmod (7 : Int)) == (0 : Int)) = false →
 ∃ (i : Bool × (Nat → Int)),
 (Good (kz n) i ∧ PW (kz n) (0 : Nat) i) ∧
 IntKind.i64.wrap ((IntKind.u64.wrap n).tmod (7 : Int)) = kz n ∧
 rows.rows = rows.rows ∧
 min (max (IntKind.i64.wrap ((IntKind.u64.wrap n).tmod (7 : Int))) (0 : Int)) (6 : Int) = kz n ∧
 bndC (min (max (IntKind.i64.wrap ((IntKind.u64.wrap n).tmod (7 : Int))) (0 : Int)) (6 : Int)) false (fun (x : Nat) => (0 : Int)) (0 : Int)
 (-1 : Int) (-1 : Int) =
 i.fst ∧
 ∀ (o : Nat),
 o < nat_lit 49 →
 bndF (min (max (IntKind.i64.wrap ((IntKind.u64.wrap n).tmod (7 : Int))) (0 : Int)) (6 : Int)) false (fun (x : Nat) => (0 : Int))
 (0 : Int) (-1 : Int) (-1 : Int) o =
 i.snd o)) ∧
 ∀ (i : Bool × (Nat → Int)),
 Good (kz n) i ∧ PW (kz n) (0 : Nat) i →
 (∃ (i_1 : Nat × Nat × Zs),
 (i_1.fst ≤ (40 : Nat) ∧ Good (kz n) i_1.snd.snd ∧ PW (kz n) i_1.snd.fst i_1.snd.snd) ∧
 (0 : Int) = (↑i_1.fst : Int) ∧
 (0 : Int) = (↑i_1.snd.fst : Int) ∧
 rows.rows = rows.rows ∧ kz n = kz n ∧ kz n = kz n ∧ i.fst = i_1.snd.snd.fst ∧ ∀ (o : Nat), o < nat_lit 49 → i.snd o = i_1.snd.snd.snd o) ∧
 ∀ (i : Nat × Nat × Zs),
 i.fst ≤ (40 : Nat) ∧ Good (kz n) i.snd.snd ∧ PW (kz n) i.snd.fst i.snd.snd →
 ((decide ((↑i.fst : Int) < (↑rows.len : Int)) && decide ((↑i.fst : Int) < (40 : Int))) = true →
 (((0 : Int) ≤ kz n ∧ kz n ≤ (6 : Int)) ∧
 ((0 : Int) ≤ (↑i.fst : Int) ∧ (↑i.fst : Int) < (↑rows.len : Int)) ∧
 Good (min (max (kz n) (0 : Int)) (6 : Int)) (false, fun (x : Nat) => (0 : Int)) ∧
 kz n = min (max (kz n) (0 : Int)) (6 : Int) ∧
 false = false ∧
 (∀ (o : Nat), o < (49 : Nat) → (0 : Int) = (0 : Int)) ∧
 ∃ (i_1 : Bool),
 True ∧
 true = true ∧
 rows.rows = rows.rows ∧
 kz n = kz n ∧
 (↑i.snd.fst : Int) = (↑i.snd.fst : Int) ∧
 (↑i.fst : Int) = (↑i.fst : Int) ∧
 min (max (kz n) (0 : Int)) (6 : Int) = kz n ∧
 (actsZ (min (max (kz n) (0 : Int)) (6 : Int)) (rows.el (↑i.fst : Int).toNat (0 : Nat))
 (false, fun (x : Nat) => (0 : Int))).fst =
 (actsZ (kz n) (rows.el (↑i.fst : Int).toNat (0 : Nat)) (false, fun (x : Nat) => (0 : Int))).fst ∧
 (∀ (o : Nat),
 o < nat_lit 49 →
 (actsZ (min (max (kz n) (0 : Int)) (6 : Int)) (rows.el (↑i.fst : Int).toNat (0 : Nat))
 (false, fun (x : Nat) => (0 : Int))).snd
 o =
 (actsZ (kz n) (rows.el (↑i.fst : Int).toNat (0 : Nat)) (false, fun (x : Nat) => (0 : Int))).snd o) ∧
 kz n = kz n ∧
 i.snd.snd.fst = i.snd.snd.fst ∧ ∀ (o : Nat), o < nat_lit 49 → i.snd.snd.snd o = i.snd.snd.snd o) ∧
 ∀ (i_1 : Bool),
 True →
 Sm i.snd.snd.snd ∧
 Sm
 (jnF (kz n) i.snd.snd.fst i.snd.snd.snd (kz n)
 (actsZ (kz n) (rows.el (↑i.fst : Int).toNat (0 : Nat)) (false, fun (x : Nat) => (0 : Int))).fst
 (actsZ (kz n) (rows.el (↑i.fst : Int).toNat (0 : Nat)) (false, fun (x : Nat) => (0 : Int))).snd) ∧
 ((!true ||
 !withinP (kz n) (actsZ (kz n) (rows.el (↑i.fst : Int).toNat (0 : Nat)) (false, fun (x : Nat) => (0 : Int))).fst
 (actsZ (kz n) (rows.el (↑i.fst : Int).toNat (0 : Nat)) (false, fun (x : Nat) => (0 : Int))).snd (kz n)
 (widC (kz n) i.snd.snd.fst i.snd.snd.snd (kz n)
 (jnC (kz n) i.snd.snd.fst (kz n)
 (actsZ (kz n) (rows.el (↑i.fst : Int).toNat (0 : Nat)) (false, fun (x : Nat) => (0 : Int))).fst)
 (jnF (kz n) i.snd.snd.fst i.snd.snd.snd (kz n)
 (actsZ (kz n) (rows.el (↑i.fst : Int).toNat (0 : Nat)) (false, fun (x : Nat) => (0 : Int))).fst
 (actsZ (kz n) (rows.el (↑i.fst : Int).toNat (0 : Nat)) (false, fun (x : Nat) => (0 : Int))).snd))
 (widF (kz n) i.snd.snd.fst i.snd.snd.snd (kz n)
 (jnC (kz n) i.snd.snd.fst (kz n)
 (actsZ (kz n) (rows.el (↑i.fst : Int).toNat (0 : Nat)) (false, fun (x : Nat) => (0 : Int))).fst)
 (jnF (kz n) i.snd.snd.fst i.snd.snd.snd (kz n)
 (actsZ (kz n) (rows.el (↑i.fst : Int).toNat (0 : Nat)) (false, fun (x : Nat) => (0 : Int))).fst
 (actsZ (kz n) (rows.el (↑i.fst : Int).toNat (0 : Nat)) (false, fun (x : Nat) => (0 : Int))).snd)) ||
 !withinP (kz n) i.snd.snd.fst i.snd.snd.snd (kz n)
 (widC (kz n) i.snd.snd.fst i.snd.snd.snd (kz n)
 (jnC (kz n) i.snd.snd.fst (kz n)
 (actsZ (kz n) (rows.el (↑i.fst : Int).toNat (0 : Nat)) (false, fun (x : Nat) => (0 : Int))).fst)
 (jnF (kz n) i.snd.snd.fst i.snd.snd.snd (kz n)
 (actsZ (kz n) (rows.el (↑i.fst : Int).toNat (0 : Nat)) (false, fun (x : Nat) => (0 : Int))).fst
 (actsZ (kz n) (rows.el (↑i.fst : Int).toNat (0 : Nat)) (false, fun (x : Nat) => (0 : Int))).snd))
 (widF (kz n) i.snd.snd.fst i.snd.snd.snd (kz n)
 (jnC (kz n) i.snd.snd.fst (kz n)
 (actsZ (kz n) (rows.el (↑i.fst : Int).toNat (0 : Nat)) (false, fun (x : Nat) => (0 : Int))).fst)
 (jnF (kz n) i.snd.snd.fst i.snd.snd.snd (kz n)
 (actsZ (kz n) (rows.el (↑i.fst : Int).toNat (0 : Nat)) (false, fun (x : Nat) => (0 : Int))).fst
 (actsZ (kz n) (rows.el (↑i.fst : Int).toNat (0 : Nat)) (false, fun (x : Nat) => (0 : Int))).snd))) =
 true →
 false = true) ∧
 ((!true ||
 !withinP (kz n) (actsZ (kz n) (rows.el (↑i.fst : Int).toNat (0 : Nat)) (false, fun (x : Nat) => (0 : Int))).fst
 (actsZ (kz n) (rows.el (↑i.fst : Int).toNat (0 : Nat)) (false, fun (x : Nat) => (0 : Int))).snd (kz n)
 (widC (kz n) i.snd.snd.fst i.snd.snd.snd (kz n)
 (jnC (kz n) i.snd.snd.fst (kz n)
 (actsZ (kz n) (rows.el (↑i.fst : Int).toNat (0 : Nat)) (false, fun (x : Nat) => (0 : Int))).fst)
 (jnF (kz n) i.snd.snd.fst i.snd.snd.snd (kz n)
 (actsZ (kz n) (rows.el (↑i.fst : Int).toNat (0 : Nat)) (false, fun (x : Nat) => (0 : Int))).fst
 (actsZ (kz n) (rows.el (↑i.fst : Int).toNat (0 : Nat)) (false, fun (x : Nat) => (0 : Int))).snd))
 (widF (kz n) i.snd.snd.fst i.snd.snd.snd (kz n)
 (jnC (kz n) i.snd.snd.fst (kz n)
 (actsZ (kz n) (rows.el (↑i.fst : Int).toNat (0 : Nat)) (false, fun (x : Nat) => (0 : Int))).fst)
 (jnF (kz n) i.snd.snd.fst i.snd.snd.snd (kz n)
 (actsZ (kz n) (rows.el (↑i.fst : Int).toNat (0 : Nat)) (false, fun (x : Nat) => (0 : Int))).fst
 (actsZ (kz n) (rows.el (↑i.fst : Int).toNat (0 : Nat)) (false, fun (x : Nat) => (0 : Int))).snd)) ||
 !withinP (kz n) i.snd.snd.fst i.snd.snd.snd (kz n)
 (widC (kz n) i.snd.snd.fst i.snd.snd.snd (kz n)
 (jnC (kz n) i.snd.snd.fst (kz n)
 (actsZ (kz n) (rows.el (↑i.fst : Int).toNat (0 : Nat)) (false, fun (x : Nat) => (0 : Int))).fst)
 (jnF (kz n) i.snd.snd.fst i.snd.snd.snd (kz n)
 (actsZ (kz n) (rows.el (↑i.fst : Int).toNat (0 : Nat)) (false, fun (x : Nat) => (0 : Int))).fst
 (actsZ (kz n) (rows.el (↑i.fst : Int).toNat (0 : Nat)) (false, fun (x : Nat) => (0 : Int))).snd))
 (widF (kz n) i.snd.snd.fst i.snd.snd.snd (kz n)
 (jnC (kz n) i.snd.snd.fst (kz n)
 (actsZ (kz n) (rows.el (↑i.fst : Int).toNat (0 : Nat)) (false, fun (x : Nat) => (0 : Int))).fst)
 (jnF (kz n) i.snd.snd.fst i.snd.snd.snd (kz n)
 (actsZ (kz n) (rows.el (↑i.fst : Int).toNat (0 : Nat)) (false, fun (x : Nat) => (0 : Int))).fst
 (actsZ (kz n) (rows.el (↑i.fst : Int).toNat (0 : Nat)) (false, fun (x : Nat) => (0 : Int))).snd))) =
 false →
 ((!(kz n == kz n &&
 (widC (kz n) i.snd.snd.fst i.snd.snd.snd (kz n)
 (jnC (kz n) i.snd.snd.fst (kz n)
 (actsZ (kz n) (rows.el (↑i.fst : Int).toNat (0 : Nat)) (false, fun (x : Nat) => (0 : Int))).fst)
 (jnF (kz n) i.snd.snd.fst i.snd.snd.snd (kz n)
 (actsZ (kz n) (rows.el (↑i.fst : Int).toNat (0 : Nat)) (false, fun (x : Nat) => (0 : Int))).fst
 (actsZ (kz n) (rows.el (↑i.fst : Int).toNat (0 : Nat)) (false, fun (x : Nat) => (0 : Int))).snd) ==
 i.snd.snd.fst &&
 (decide
 (∀ (o : Nat),
 o < (49 : Nat) →
 widF (kz n) i.snd.snd.fst i.snd.snd.snd (kz n)
 (jnC (kz n) i.snd.snd.fst (kz n)
 (actsZ (kz n) (rows.el (↑i.fst : Int).toNat (0 : Nat)) (false, fun (x : Nat) => (0 : Int))).fst)
 (jnF (kz n) i.snd.snd.fst i.snd.snd.snd (kz n)
 (actsZ (kz n) (rows.el (↑i.fst : Int).toNat (0 : Nat)) (false, fun (x : Nat) => (0 : Int))).fst
 (actsZ (kz n) (rows.el (↑i.fst : Int).toNat (0 : Nat)) (false, fun (x : Nat) => (0 : Int))).snd)
 o =
 i.snd.snd.snd o) &&
 true)))) =
 true →
 ∃ (j : Nat × Nat × Zs),
 (j.fst ≤ (40 : Nat) ∧ Good (kz n) j.snd.snd ∧ PW (kz n) j.snd.fst j.snd.snd) ∧
 (41 : Nat) - j.fst < (41 : Nat) - i.fst ∧
 IntKind.i64.wrap ((↑i.fst : Int) + (1 : Int)) = (↑j.fst : Int) ∧
 IntKind.i64.wrap ((↑i.snd.fst : Int) + (1 : Int)) = (↑j.snd.fst : Int) ∧
 rows.rows = rows.rows ∧
 kz n = kz n ∧
 kz n = kz n ∧
 widC (kz n) i.snd.snd.fst i.snd.snd.snd (kz n)
 (jnC (kz n) i.snd.snd.fst (kz n)
 (actsZ (kz n) (rows.el (↑i.fst : Int).toNat (0 : Nat)) (false, fun (x : Nat) => (0 : Int))).fst)
 (jnF (kz n) i.snd.snd.fst i.snd.snd.snd (kz n)
 (actsZ (kz n) (rows.el (↑i.fst : Int).toNat (0 : Nat)) (false, fun (x : Nat) => (0 : Int))).fst
 (actsZ (kz n) (rows.el (↑i.fst : Int).toNat (0 : Nat)) (false, fun (x : Nat) => (0 : Int))).snd) =
 j.snd.snd.fst ∧
 ∀ (o : Nat),
 o < nat_lit 49 →
 widF (kz n) i.snd.snd.fst i.snd.snd.snd (kz n)
 (jnC (kz n) i.snd.snd.fst (kz n)
 (actsZ (kz n) (rows.el (↑i.fst : Int).toNat (0 : Nat)) (false, fun (x : Nat) => (0 : Int))).fst)
 (jnF (kz n) i.snd.snd.fst i.snd.snd.snd (kz n)
 (actsZ (kz n) (rows.el (↑i.fst : Int).toNat (0 : Nat)) (false, fun (x : Nat) => (0 : Int))).fst
 (actsZ (kz n) (rows.el (↑i.fst : Int).toNat (0 : Nat)) (false, fun (x : Nat) => (0 : Int))).snd)
 o =
 j.snd.snd.snd o) ∧
 ((!(kz n == kz n &&
 (widC (kz n) i.snd.snd.fst i.snd.snd.snd (kz n)
 (jnC (kz n) i.snd.snd.fst (kz n)
 (actsZ (kz n) (rows.el (↑i.fst : Int).toNat (0 : Nat)) (false, fun (x : Nat) => (0 : Int))).fst)
 (jnF (kz n) i.snd.snd.fst i.snd.snd.snd (kz n)
 (actsZ (kz n) (rows.el (↑i.fst : Int).toNat (0 : Nat)) (false, fun (x : Nat) => (0 : Int))).fst
 (actsZ (kz n) (rows.el (↑i.fst : Int).toNat (0 : Nat)) (false, fun (x : Nat) => (0 : Int))).snd) ==
 i.snd.snd.fst &&
 (decide
 (∀ (o : Nat),
 o < (49 : Nat) →
 widF (kz n) i.snd.snd.fst i.snd.snd.snd (kz n)
 (jnC (kz n) i.snd.snd.fst (kz n)
 (actsZ (kz n) (rows.el (↑i.fst : Int).toNat (0 : Nat)) (false, fun (x : Nat) => (0 : Int))).fst)
 (jnF (kz n) i.snd.snd.fst i.snd.snd.snd (kz n)
 (actsZ (kz n) (rows.el (↑i.fst : Int).toNat (0 : Nat)) (false, fun (x : Nat) => (0 : Int))).fst
 (actsZ (kz n) (rows.el (↑i.fst : Int).toNat (0 : Nat)) (false, fun (x : Nat) => (0 : Int))).snd)
 o =
 i.snd.snd.snd o) &&
 true)))) =
 false →
 ∃ (j : Nat × Nat × Zs),
 (j.fst ≤ (40 : Nat) ∧ Good (kz n) j.snd.snd ∧ PW (kz n) j.snd.fst j.snd.snd) ∧
 (41 : Nat) - j.fst < (41 : Nat) - i.fst ∧
 IntKind.i64.wrap ((↑i.fst : Int) + (1 : Int)) = (↑j.fst : Int) ∧
 (↑i.snd.fst : Int) = (↑j.snd.fst : Int) ∧
 rows.rows = rows.rows ∧
 kz n = kz n ∧
 kz n = kz n ∧
 widC (kz n) i.snd.snd.fst i.snd.snd.snd (kz n)
 (jnC (kz n) i.snd.snd.fst (kz n)
 (actsZ (kz n) (rows.el (↑i.fst : Int).toNat (0 : Nat)) (false, fun (x : Nat) => (0 : Int))).fst)
 (jnF (kz n) i.snd.snd.fst i.snd.snd.snd (kz n)
 (actsZ (kz n) (rows.el (↑i.fst : Int).toNat (0 : Nat)) (false, fun (x : Nat) => (0 : Int))).fst
 (actsZ (kz n) (rows.el (↑i.fst : Int).toNat (0 : Nat)) (false, fun (x : Nat) => (0 : Int))).snd) =
 j.snd.snd.fst ∧
 ∀ (o : Nat),
 o < nat_lit 49 →
 widF (kz n) i.snd.snd.fst i.snd.snd.snd (kz n)
 (jnC (kz n) i.snd.snd.fst (kz n)
 (actsZ (kz n) (rows.el (↑i.fst : Int).toNat (0 : Nat)) (false, fun (x : Nat) => (0 : Int))).fst)
 (jnF (kz n) i.snd.snd.fst i.snd.snd.snd (kz n)
 (actsZ (kz n) (rows.el (↑i.fst : Int).toNat (0 : Nat)) (false, fun (x : Nat) => (0 : Int))).fst
 (actsZ (kz n) (rows.el (↑i.fst : Int).toNat (0 : Nat)) (false, fun (x : Nat) => (0 : Int))).snd)
 o =
 j.snd.snd.snd o))) ∧
 ((decide ((↑i.fst : Int) < (↑rows.len : Int)) && decide ((↑i.fst : Int) < (40 : Int))) = false →
 (true && decide ((↑i.snd.fst : Int) ≤ (14 : Int))) = true)) (by kernel_rfl) ?_
    simp only [raw0, true_and, and_true, implies_true, Nat.mul_one, Int.toNat_natCast, c7, decide_eq_true_eq, decide_eq_false_iff_not, Nat.zero_add, forall_const, Nat.le_eq, at_iff, bne_iff_ne, bne_eq_false_iff_eq, and_self, and_self_left, Nat.reduceAdd]
    have hk := kz_in n
    have hmin : min (max (kz n) 0) 6 = kz n := by omega
    have ek : IntKind.i64.wrap ((IntKind.u64.wrap n).tmod 7) = kz n := rfl
    rw [ek, hmin]
    have gO : Good (kz n) (false, fun _ => 0) := good_none hk false
    have pw0 : ∀ z : Zs, PW (kz n) 0 z := fun z => by
      cases h : z.1 with
      | true => exact .inl ⟨h, rfl⟩
      | false => have := fin_le (kz n) z.2; exact .inr ⟨h, by omega, .inl (by omega)⟩
    refine ⟨gO.sm, ⟨fun h => ?_, fun h => ⟨bndZ (kz n) 0 (-1) (-1) (false, fun _ => 0), ⟨good_bnd gO _ _ _, pw0 _⟩, rfl, rfl, rfl, fun _ _ => rfl⟩⟩, fun q hq => ⟨⟨(0, 0, q), ⟨by omega, hq.1, hq.2⟩, rfl, rfl, rfl, fun _ _ => rfl⟩, fun q hq => ⟨fun h => ?_, fun h => ?_⟩⟩⟩
    · have h0 : kz n = 0 := by simpa using h
      have gT := good_top 0
      rw [show topN 0 = 0 from rfl] at gT
      refine ⟨(false, topF 0), ⟨by rw [h0]; exact gT, pw0 _⟩, rfl, by rw [h0]; rfl, rfl, fun _ _ => rfl⟩
    · obtain ⟨i, c, z⟩ := q
      obtain ⟨hi, gz, hp⟩ := hq
      dsimp only at hi gz hp h ⊢
      simp only [Bool.and_eq_true, decide_eq_true_eq] at h
      have gx := good_actsZ (d := rows.el i 0) gO
      have gj := good_jn gz gx
      have st := pw_step gz gx hp
      have w0 := wi_wl gz gj
      have w1 := wi_iff.2 w0.1
      have w2 := wi_iff.2 (wi_trans (wi_jr (n := kz n) z _) w0.2)
      have gw := good_wd gz gj
      have hc : c ≤ 14 := by rcases hp with ⟨_, h⟩ | ⟨_, h, _⟩ <;> omega
      have f1 : widC (kz n) z.1 z.2 (kz n) (jnC (kz n) z.1 (kz n) (actsZ (kz n) (rows.el i 0) (false, fun _ => 0)).1) (jnF (kz n) z.1 z.2 (kz n) (actsZ (kz n) (rows.el i 0) (false, fun _ => 0)).1 (actsZ (kz n) (rows.el i 0) (false, fun _ => 0)).2) = (wdZ (kz n) z (jnZ (kz n) z (actsZ (kz n) (rows.el i 0) (false, fun _ => 0)))).1 := rfl
      have f2 : widF (kz n) z.1 z.2 (kz n) (jnC (kz n) z.1 (kz n) (actsZ (kz n) (rows.el i 0) (false, fun _ => 0)).1) (jnF (kz n) z.1 z.2 (kz n) (actsZ (kz n) (rows.el i 0) (false, fun _ => 0)).1 (actsZ (kz n) (rows.el i 0) (false, fun _ => 0)).2) = (wdZ (kz n) z (jnZ (kz n) z (actsZ (kz n) (rows.el i 0) (false, fun _ => 0)))).2 := rfl
      simp only [f1, f2, w1, w2]
      clear f1 f2
      refine ⟨⟨hk, by omega, gO, trivial, true, trivial, trivial, fun _ _ => trivial⟩, gz.sm, gj.sm, (fun h => by simp at h), fun _ => ⟨fun h3 => ?_, fun h3 => ?_⟩⟩
      · rcases st with st | ⟨s1, s2⟩
        · simp only [st] at h3; simp at h3
        · exact ⟨(i + 1, c + 1, wdZ (kz n) z (jnZ (kz n) z (actsZ (kz n) (rows.el i 0) (false, fun _ => 0)))), ⟨by omega, gw, s1⟩, by dsimp only; omega, wr _ (by omega), wr _ (by omega), rfl, fun _ _ => rfl⟩
      · rcases st with st | ⟨s1, s2⟩
        · exact ⟨(i + 1, c, wdZ (kz n) z (jnZ (kz n) z (actsZ (kz n) (rows.el i 0) (false, fun _ => 0)))), ⟨by omega, gw, by rw [st]; exact hp⟩, by dsimp only; omega, wr _ (by omega), rfl, rfl, fun _ _ => rfl⟩
        · exact ⟨(i + 1, c, wdZ (kz n) z (jnZ (kz n) z (actsZ (kz n) (rows.el i 0) (false, fun _ => 0)))), ⟨by omega, gw, s2⟩, by dsimp only; omega, wr _ (by omega), rfl, rfl, fun _ _ => rfl⟩
    · obtain ⟨i, c, z⟩ := q
      obtain ⟨hi, gz, hp⟩ := hq
      dsimp only at hp ⊢
      have hc : c ≤ 14 := by rcases hp with ⟨_, h⟩ | ⟨_, h, _⟩ <;> omega
      rw [Bool.true_and, decide_eq_true_eq]
      omega
  · trivial
end Go.Proofs.Ytmdoafhohflhdaa.Sx.Z
