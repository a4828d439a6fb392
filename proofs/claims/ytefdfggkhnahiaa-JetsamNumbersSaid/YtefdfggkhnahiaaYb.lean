/-
  What the reference's rounds come to: the least bounds of the same numbers.
-/
import Derived.Test.YtefdfggkhnahiaaYa
namespace Go.Proofs.Ytefdfggkhnahiaa.Sx.Z
open Go.RowKit
def Le (f g : Nat → Int) : Prop := ∀ o, o < 49 → f o ≤ g o
theorem le_refl' (f : Nat → Int) : Le f f := fun _ _ => Int.le_refl _
theorem le_tr {f g h : Nat → Int} (a : Le f g) (b : Le g h) : Le f h := fun o ho => Int.le_trans (a o ho) (b o ho)
theorem relax_le {f : Nat → Int} (h : Bd f) (i j k : Nat) : Le (relax f i j k) f := fun o ho => by
  have := h o ho
  unfold relax
  split
  · omega
  · exact Int.le_refl _
theorem kUp_le {f : Nat → Int} (h : Bd f) (i j : Nat) : ∀ k m, Le (kUp f i j (k + m)) (kUp f i j k)
  | k, 0 => le_refl' _
  | k, m + 1 => le_tr (relax_le (bd_kUp h i j (k + m)) i j (k + m)) (kUp_le h i j k m)
theorem jUp_le {f : Nat → Int} (h : Bd f) (i r : Nat) : ∀ k m, Le (jUp f i r (k + m)) (jUp f i r k)
  | k, 0 => le_refl' _
  | k, m + 1 => le_tr (by have := kUp_le (bd_jUp h i r (k + m)) i (k + m) 0 r; rwa [Nat.zero_add] at this) (jUp_le h i r k m)
theorem iUp_le {f : Nat → Int} (h : Bd f) (r : Nat) : ∀ k m, Le (iUp f r (k + m)) (iUp f r k)
  | k, 0 => le_refl' _
  | k, m + 1 => le_tr (by have := jUp_le (bd_iUp h r (k + m)) (k + m) r 0 r; rwa [Nat.zero_add] at this) (iUp_le h r k m)
theorem rUp_le {f : Nat → Int} (h : Bd f) (r : Nat) : ∀ k m, Le (rUp f r (k + m)) (rUp f r k)
  | k, 0 => le_refl' _
  | k, m + 1 => le_tr (by have := iUp_le (bd_rUp h r (k + m)) r 0 r; rwa [Nat.zero_add] at this) (rUp_le h r k m)
theorem rUp_le' {f : Nat → Int} (h : Bd f) (r : Nat) {a b : Nat} (hab : a ≤ b) : Le (rUp f r b) (rUp f r a) := by
  have := rUp_le h r a (b - a)
  rwa [show a + (b - a) = b by omega] at this
/-- One round goes over whatever is between. -/
theorem iUp_path {f : Nat → Int} (h : Bd f) {r i j k : Nat} (hr : r ≤ 7) (hi : i < r) (hj : j < r) (hk : k < r) : iUp f r r (i * 7 + j) ≤ max (f (i * 7 + k) + f (k * 7 + j)) (-35184372088832) := by
  have b1 := bd_iUp h r i
  have b2 := bd_jUp b1 i r j
  have b3 := bd_kUp b2 i j k
  have l1 : Le (iUp f r r) (iUp f r (i + 1)) := by have := iUp_le h r (i + 1) (r - (i + 1)); rwa [show i + 1 + (r - (i + 1)) = r by omega] at this
  have l2 : Le (jUp (iUp f r i) i r r) (jUp (iUp f r i) i r (j + 1)) := by have := jUp_le b1 i r (j + 1) (r - (j + 1)); rwa [show j + 1 + (r - (j + 1)) = r by omega] at this
  have l3 : Le (kUp (jUp (iUp f r i) i r j) i j r) (kUp (jUp (iUp f r i) i r j) i j (k + 1)) := by have := kUp_le b2 i j (k + 1) (r - (k + 1)); rwa [show k + 1 + (r - (k + 1)) = r by omega] at this
  have g1 : Le (iUp f r i) f := by have := iUp_le h r 0 i; rwa [Nat.zero_add] at this
  have g2 : Le (jUp (iUp f r i) i r j) (iUp f r i) := by have := jUp_le b1 i r 0 j; rwa [Nat.zero_add] at this
  have g3 : Le (kUp (jUp (iUp f r i) i r j) i j k) (jUp (iUp f r i) i r j) := by have := kUp_le b2 i j 0 k; rwa [Nat.zero_add] at this
  have g := le_tr g3 (le_tr g2 g1)
  have a1 := g (i * 7 + k) (by omega)
  have a2 := g (k * 7 + j) (by omega)
  have c1 := l1 (i * 7 + j) (by omega)
  have c2 := l2 (i * 7 + j) (by omega)
  have c3 := l3 (i * 7 + j) (by omega)
  have e : kUp (jUp (iUp f r i) i r j) i j (k + 1) (i * 7 + j) = max (min (kUp (jUp (iUp f r i) i r j) i j k (i * 7 + j)) (kUp (jUp (iUp f r i) i r j) i j k (i * 7 + k) + kUp (jUp (iUp f r i) i r j) i j k (k * 7 + j))) (-35184372088832) := if_pos rfl
  rw [e] at c3
  have d1 : iUp f r (i + 1) (i * 7 + j) = jUp (iUp f r i) i r r (i * 7 + j) := rfl
  have d2 : jUp (iUp f r i) i r (j + 1) (i * 7 + j) = kUp (jUp (iUp f r i) i r j) i j r (i * 7 + j) := rfl
  omega
theorem rUp_path {f : Nat → Int} (h : Bd f) {r m i j k : Nat} (hr : r ≤ 7) (hi : i < r) (hj : j < r) (hk : k < r) : rUp f r (m + 1) (i * 7 + j) ≤ max (rUp f r m (i * 7 + k) + rUp f r m (k * 7 + j)) (-35184372088832) :=
  iUp_path (bd_rUp h r m) hr hi hj hk
/-- Nothing comes below closed bounds. -/
structure Under (C : Nat → Int) (r : Nat) (f : Nat → Int) : Prop where
  le : ∀ i j, i < r → j < r → C (i * 7 + j) ≤ f (i * 7 + j)
section
variable {C : Nat → Int} {r : Nat} (hl : ∀ i j, i < r → j < r → -35184372088832 ≤ C (i * 7 + j)) (ht : ∀ i j k, i < r → j < r → k < r → tri C i j k)
include hl ht
theorem un_relax {f : Nat → Int} (h : Under C r f) {i j k : Nat} (hi : i < r) (hj : j < r) (hk : k < r) : Under C r (relax f i j k) := ⟨fun a b ha hb => by
  have h0 := h.le a b ha hb
  have h1 := h.le i k hi hk
  have h2 := h.le k j hk hj
  have h3 := ht i j k hi hj hk
  have h4 := hl a b ha hb
  unfold tri at h3
  unfold relax
  by_cases e : a * 7 + b = i * 7 + j
  · rw [if_pos e]; rw [e] at h0 h4 ⊢; omega
  · rw [if_neg e]; exact h0⟩
theorem un_kUp {f : Nat → Int} (h : Under C r f) {i j : Nat} (hi : i < r) (hj : j < r) : ∀ k, k ≤ r → Under C r (kUp f i j k)
  | 0, _ => h
  | k + 1, hk => un_relax hl ht (un_kUp h hi hj k (by omega)) hi hj (by omega)
theorem un_jUp {f : Nat → Int} (h : Under C r f) {i : Nat} (hi : i < r) : ∀ j, j ≤ r → Under C r (jUp f i r j)
  | 0, _ => h
  | j + 1, hj => un_kUp hl ht (un_jUp h hi j (by omega)) hi (by omega) r (Nat.le_refl r)
theorem un_iUp {f : Nat → Int} (h : Under C r f) : ∀ i, i ≤ r → Under C r (iUp f r i)
  | 0, _ => h
  | i + 1, hi => un_jUp hl ht (un_iUp h i (by omega)) (by omega) r (Nat.le_refl r)
theorem un_rUp {f : Nat → Int} (h : Under C r f) : ∀ n, Under C r (rUp f r n)
  | 0 => h
  | n + 1 => un_iUp hl ht (un_rUp h n) r (Nat.le_refl r)
end
/-- What lies beyond stays. -/
theorem out_relax {f : Nat → Int} {i j k r o : Nat} (ho : ¬ (o / 7 < r ∧ o % 7 < r)) (hi : i < r) (hj : j < r) (hr : r ≤ 7) : relax f i j k o = f o := by
  unfold relax
  rw [if_neg (by omega)]
theorem out_kUp {f : Nat → Int} {i j r o : Nat} (ho : ¬ (o / 7 < r ∧ o % 7 < r)) (hi : i < r) (hj : j < r) (hr : r ≤ 7) : ∀ k, kUp f i j k o = f o
  | 0 => rfl
  | k + 1 => (out_relax ho hi hj hr).trans (out_kUp ho hi hj hr k)
theorem out_jUp {f : Nat → Int} {i r o : Nat} (ho : ¬ (o / 7 < r ∧ o % 7 < r)) (hi : i < r) (hr : r ≤ 7) : ∀ j, j ≤ r → jUp f i r j o = f o
  | 0, _ => rfl
  | j + 1, hj => (out_kUp ho hi (by omega) hr r).trans (out_jUp ho hi hr j (by omega))
theorem out_iUp {f : Nat → Int} {r o : Nat} (ho : ¬ (o / 7 < r ∧ o % 7 < r)) (hr : r ≤ 7) : ∀ i, i ≤ r → iUp f r i o = f o
  | 0, _ => rfl
  | i + 1, hi => (out_jUp ho (by omega) hr r (Nat.le_refl r)).trans (out_iUp ho hr i (by omega))
theorem out_rUp {f : Nat → Int} {r o : Nat} (ho : ¬ (o / 7 < r ∧ o % 7 < r)) (hr : r ≤ 7) : ∀ n, rUp f r n o = f o
  | 0 => rfl
  | n + 1 => (out_iUp ho hr r (Nat.le_refl r)).trans (out_rUp ho hr n)
/-- Closed bounds that are reached are what Close tells. -/
theorem cl_eq {n : Int} {G C : Nat → Int} (hC : Good n (false, C)) (hB : Bd G) (hout : ∀ o, o < 49 → ¬ (o / 7 < R n ∧ o % 7 < R n) → clampTo G (R n) o = 0) (le : ∀ i j, i < R n → j < R n → C (i * 7 + j) ≤ clampTo G (R n) (i * 7 + j))
    (ge : ∀ i j, i < R n → j < R n → rUp (clampTo G (R n)) (R n) (R n + 1) (i * 7 + j) ≤ C (i * 7 + j)) : (clZ n (false, G)).1 = false ∧ ∀ o, o < 49 → (clZ n (false, G)).2 o = C o := by
  have hR := R_le n
  have un := un_rUp (C := C) (fun i j hi hj => by have := (hC.low hi hj).1; dsimp only at this; omega) hC.tri ⟨le⟩ (R n + 1)
  have eq : ∀ o, o < 49 → clF n G o = C o := fun o ho => by
    obtain ⟨e, hi, hj⟩ := at7 ho rfl rfl
    by_cases hr : o / 7 < R n ∧ o % 7 < R n
    · have h1 := un.le _ _ hr.1 hr.2
      have h2 := ge _ _ hr.1 hr.2
      rw [e]
      unfold clF
      omega
    · have h1 : clF n G o = clampTo G (R n) o := out_rUp hr hR.2.1 _
      rw [h1, hout o ho hr, e]
      exact (hC.out _ _ hi hj (by omega)).symm
  have nn : ¬ negD (clF n G) (R n) = true := fun h => by
    obtain ⟨i, hi, hneg⟩ := negD_iff.1 h
    rw [eq _ (by omega)] at hneg
    have := hC.diag i hi
    rw [show i * 8 = i * 7 + i by omega] at hneg
    dsimp only at this
    omega
  have e : clZ n (false, G) = (false, clF n G) := (if_neg (by simp)).trans (if_neg nn)
  rw [e]
  exact ⟨rfl, eq⟩
theorem cl_none {n : Int} {G : Nat → Int} (hB : Bd G) {i m : Nat} (hi : i < R n) (hm : m ≤ R n + 1) (h : rUp (clampTo G (R n)) (R n) m (i * 7 + i) < 0) : clZ n (false, G) = (true, fun _ => 0) := by
  have hR := R_le n
  refine (if_neg (by simp)).trans (if_pos (negD_iff.2 ⟨i, hi, ?_⟩))
  have := rUp_le' (bd_clamp hB (R n)) (R n) hm (i * 7 + i) (by omega)
  rw [show i * 8 = i * 7 + i by omega]
  unfold clF
  dsimp only
  omega
end Go.Proofs.Ytefdfggkhnahiaa.Sx.Z
