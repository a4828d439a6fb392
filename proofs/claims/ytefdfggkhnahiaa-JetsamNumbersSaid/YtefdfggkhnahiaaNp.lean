/-
  Numbers of variables, Zones: what the laws want of them.
-/
import Derived.Test.YtefdfggkhnahiaaYf
import Derived.Laws.Bits64
namespace Go.Proofs.Ytefdfggkhnahiaa.Sx.Z
open Go.RowKit
def kz (n : Int) : Int := IntKind.i64.wrap ((IntKind.u64.wrap n).tmod 7)
theorem u64_in (n : Int) : 0 ≤ IntKind.u64.wrap n ∧ IntKind.u64.wrap n ≤ 18446744073709551615 := by
  rw [IntKind.wrap_u64]; omega
theorem tmod_in {a b : Int} (ha : 0 ≤ a) (hb : 0 < b) : 0 ≤ a.tmod b ∧ a.tmod b < b := ⟨Int.tmod_nonneg _ ha, Int.tmod_lt_of_pos _ hb⟩
theorem kz_in (n : Int) : 0 ≤ kz n ∧ kz n ≤ 6 := by
  unfold kz
  have h := u64_in n
  have h2 := tmod_in h.1 (show (0 : Int) < 7 by omega)
  rw [wr _ (by omega)]
  omega
/-- A place among so many. -/
theorem px_in (x k : Int) (hk : 0 < k ∧ k ≤ 1000) : 0 ≤ IntKind.i64.wrap ((IntKind.u64.wrap x).tmod (IntKind.u64.wrap k)) ∧ IntKind.i64.wrap ((IntKind.u64.wrap x).tmod (IntKind.u64.wrap k)) < k := by
  have h := u64_in x
  have e : IntKind.u64.wrap k = k := by rw [IntKind.wrap_u64]; omega
  rw [e]
  have h2 := tmod_in h.1 hk.1
  rw [wr _ (by omega)]
  exact h2
theorem tmod_any (x : Int) : -999 ≤ x.tmod 1000 ∧ x.tmod 1000 ≤ 999 := by
  rcases Int.le_total 0 x with h | h
  · rw [Int.tmod_eq_emod_of_nonneg h]; omega
  · have e : x.tmod 1000 = -((-x).tmod 1000) := by rw [Int.neg_tmod]; omega
    rw [e, Int.tmod_eq_emod_of_nonneg (by omega)]; omega
theorem has_row {n : Int} {c : Bool} {f : Nat → Int} (m : Nat) (g : Nat → Int) : hasP n c f ((rowI m g).sub 0 m).len (ig ((rowI m g).sub 0 m)) = hasP n c f m g := by
  have e : ((rowI m g).sub 0 m).rows = (rowI m g).rows := by have := sub_all (rowI m g) (n := m) (rowI_len m g).symm; rwa [Nat.zero_add] at this
  rw [len_rows e, ig_rows e, rowI_len]
  exact has_congr fun q hq => ig_rowI m g hq
theorem isVar_of {n x : Int} (hn : 0 ≤ n ∧ n ≤ 6) (h : 0 ≤ x ∧ x < n) : isVarP n x = true := by
  unfold isVarP; rw [rows_n hn]; simp only [Bool.and_eq_true, decide_eq_true_eq]; omega
theorem isEnd_of {n x : Int} (hn : 0 ≤ n ∧ n ≤ 6) (h : -1 ≤ x ∧ x < n) : isEndP n x = true := by
  unfold isEndP isVarP; rw [rows_n hn]; simp only [Bool.or_eq_true, Bool.and_eq_true, decide_eq_true_eq, beq_iff_eq]; omega
def zoP (n : Int) : Nat → Zs
  | 0 => (false, topF n)
  | x + 1 => bndZ n (-1) x 0 (bndZ n x (-1) 0 (zoP n x))
theorem zoP_good {n : Int} (hn : 0 ≤ n ∧ n ≤ 6) : ∀ k, Good n (zoP n k)
  | 0 => by have := good_top n; rwa [show topN n = n by unfold topN; omega] at this
  | k + 1 => good_bnd (good_bnd (zoP_good hn k) _ _ _) _ _ _
theorem zoP_pt {n : Int} (hn : 0 ≤ n ∧ n ≤ 6) (v : Nat → Int) : ∀ k : Nat, (k : Int) ≤ n → (Pt n (zoP n k) v ↔ Pt n (false, topF n) v ∧ ∀ i, i < k → v (i + 1) = 0)
  | 0, _ => ⟨fun h => ⟨h, fun i hi => absurd hi (Nat.not_lt_zero i)⟩, fun h => h.1⟩
  | k + 1, hk => by
    have g := zoP_good hn k
    have ex := isEnd_of (x := (k : Int)) hn (by omega)
    show Pt n (bndZ n (-1) k 0 (bndZ n k (-1) 0 (zoP n k))) v ↔ _
    rw [bnd_pt (good_bnd g _ _ _) (isEnd_nought n) ex, bnd_pt g ex (isEnd_nought n), zoP_pt hn v k (by omega)]
    have e1 : ((k : Int) + 1).toNat = k + 1 := by omega
    have e0 : ((-1 : Int) + 1).toNat = 0 := rfl
    rw [e1, e0]
    constructor
    · rintro ⟨⟨⟨h1, h2⟩, h3⟩, h4⟩
      refine ⟨h1, fun i hi => ?_⟩
      by_cases h : i < k
      · exact h2 i h
      · rw [show i = k by omega]; have := h1.2.1; omega
    · rintro ⟨h1, h2⟩
      have := h1.2.1
      have h3 := h2 k (by omega)
      exact ⟨⟨⟨h1, fun i hi => h2 i (by omega)⟩, by omega⟩, by omega⟩
theorem zo_same {n : Int} (hn : 0 ≤ n ∧ n ≤ 6) : Same (zoP n n.toNat) (false, fun _ => 0) := by
  have hR := R_le n
  have hRn := R_n hn
  have ht : topN n = n := by unfold topN; omega
  refine good_ext (zoP_good hn _) (good_none hn false) fun v => ?_
  rw [zoP_pt hn v _ (by omega)]
  constructor
  · rintro ⟨h1, h2⟩
    have hv : ∀ i, i < R n → v i = 0 := fun i hi => by
      by_cases h : i = 0
      · rw [h]; exact h1.2.1
      · have := h2 (i - 1) (by omega); rwa [show i - 1 + 1 = i by omega] at this
    exact ⟨rfl, h1.2.1, fun i j hi hj => by rw [hv i hi, hv j hj]; exact Int.le_refl _⟩
  · rintro ⟨_, v0, hp⟩
    have hv : ∀ i, i < R n → v i = 0 := fun i hi => by
      have a := hp i 0 hi (by omega)
      have b := hp 0 i (by omega) hi
      dsimp only at a b
      omega
    refine ⟨?_, fun i hi => hv (i + 1) (by omega)⟩
    have := pt_top (n := n) (v := v) v0 (fun i hi => by rw [ht] at hi; rw [hv i hi]; omega)
    rwa [ht] at this
theorem fg_true {n x : Int} {z : Zs} (h : z.1 = true) : fgZ n x z = z := by
  obtain ⟨c, f⟩ := z
  dsimp only at h
  subst h
  refine Prod.ext rfl (funext fun o => ?_)
  show forgetF n true f x o = f o
  unfold forgetF; rw [if_pos (by simp)]
theorem fg_false {n x : Int} {z : Zs} (h : z.1 = false) (hx : isVarP n x = true) : fgZ n x z = (false, fgTo z.2 (x + 1).toNat (R n)) := by
  obtain ⟨c, f⟩ := z
  dsimp only at h
  subst h
  refine Prod.ext rfl (funext fun o => ?_)
  show forgetF n false f x o = _
  unfold forgetF; rw [if_neg (by rw [hx]; simp)]; rfl
theorem fg_idem {n x : Int} {z : Zs} (hx : isVarP n x = true) (o : Nat) (ho : o < 49) : forgetF n (fgZ n x z).1 (fgZ n x z).2 x o = (fgZ n x z).2 o := by
  cases h : z.1 with
  | true => rw [fg_true h]; unfold forgetF; rw [h, if_pos (by simp)]
  | false =>
    have hR := R_le n
    obtain ⟨ha, hax, ha1⟩ := isVar_R hx
    rw [fg_false h hx]
    unfold forgetF
    rw [if_neg (by rw [hx]; simp)]
    show fgTo (fgTo z.2 (x + 1).toNat (R n)) (x + 1).toNat (R n) o = fgTo z.2 (x + 1).toNat (R n) o
    generalize (x + 1).toNat = a at *
    unfold fgTo
    by_cases c1 : o / 7 = a ∧ o % 7 ≠ a ∧ o % 7 < R n
    · rw [if_pos c1, if_pos c1, if_neg (by omega), if_neg (by omega)]
    · rw [if_neg c1, if_neg c1]
      by_cases c2 : o % 7 = a ∧ o / 7 ≠ a ∧ o / 7 < R n
      · rw [if_pos c2, if_pos c2, if_neg (by omega), if_neg (by omega)]
      · rw [if_neg c2, if_neg c2]
theorem fg_within {n x : Int} {z : Zs} (g : Good n z) (h : z.1 = false) (hx : isVarP n x = true) : withinP n z.1 z.2 n (fgZ n x z).1 (fgZ n x z).2 = true := by
  have hR := R_le n
  rw [fg_false h hx, h]
  unfold withinP
  rw [if_neg (by simp)]
  refine allB_iff.2 fun o ho hr => ?_
  have e : o / 7 * 7 + o % 7 = o := by omega
  unfold leP
  rw [decide_eq_true_eq]
  rw [← e]
  have hr' : o / 7 < R n ∧ o % 7 < R n := hr
  dsimp only
  rw [fg_at hr'.1 hr'.2 hR.2.1]
  have t := g.tri (o / 7) (o % 7) 0 hr'.1 hr'.2 (by omega)
  have h0 := g.hi0 (o / 7) hr'.1
  have h1 := g.hi1 (o % 7) hr'.2
  unfold Z.tri at t
  rw [Nat.add_zero, Nat.zero_mul, Nat.zero_add] at t
  split
  · omega
  · split
    · omega
    · exact Int.le_refl _
theorem fg_all {n x : Int} {z : Zs} (g : Good n z) (h : z.1 = false) (hx : isVarP n x = true) : itvLo n (fgZ n x z).1 (fgZ n x z).2 x = -2147483648 ∧ itvHi n (fgZ n x z).1 (fgZ n x z).2 x = 2147483647 := by
  have hR := R_le n
  obtain ⟨ha, hax, ha1⟩ := isVar_R hx
  have d := g.diag 0 (by omega)
  rw [Nat.zero_mul, Nat.zero_add] at d
  rw [fg_false h hx]
  have e1 := fg_at (f := z.2) (a := (x + 1).toNat) ha (show 0 < R n by omega) hR.2.1
  have e2 := fg_at (f := z.2) (a := (x + 1).toNat) (show 0 < R n by omega) ha hR.2.1
  rw [Nat.add_zero, if_pos ⟨rfl, by omega⟩, d] at e1
  rw [Nat.zero_mul, Nat.zero_add, if_neg (by omega), if_pos ⟨rfl, by omega⟩, d] at e2
  unfold itvLo itvHi
  rw [hx, if_neg (by simp), if_neg (by simp)]
  dsimp only
  rw [e1, e2]
  exact ⟨rfl, rfl⟩
theorem bnd_out {n x y b : Int} {z : Zs} (h : isEndP n x = false ∨ isEndP n y = false) : bndC n z.1 z.2 x y b = z.1 ∧ bndF n z.1 z.2 x y b = z.2 := by
  rcases bnd_cases n x y b z with ⟨e, _⟩ | ⟨_, h1, h2, _⟩
  · exact ⟨congrArg Prod.fst e, congrArg Prod.snd e⟩
  · rcases h with h | h
    · rw [h] at h1; cases h1
    · rw [h] at h2; cases h2
theorem fg_out {n x : Int} {z : Zs} (h : isVarP n x = false) : forgetF n z.1 z.2 x = z.2 := by
  funext o
  unfold forgetF
  rw [if_pos (by rw [h]; simp)]
theorem cp_out {n x y b : Int} {z : Zs} (h : isVarP n x = false ∨ isEndP n y = false) : copyZ n x y b z = z := by
  unfold copyZ
  rw [if_pos]
  rcases h with h | h <;> rw [h] <;> simp
theorem itv_exact {n x : Int} {z : Zs} (g : Good n z) (h : z.1 = false) (hx : isVarP n x = true) : itvLo n z.1 z.2 x = 0 - z.2 (x + 1).toNat ∧ itvHi n z.1 z.2 x = z.2 ((x + 1).toNat * 7) := by
  obtain ⟨ha, hax, ha1⟩ := isVar_R hx
  have hR := R_le n
  have h0 := g.hi0 _ ha
  have h1 := g.hi1 _ ha
  have t := g.tri 0 0 (x + 1).toNat (by omega) (by omega) ha
  have d := g.diag 0 (by omega)
  unfold Z.tri at t
  rw [Nat.zero_mul, Nat.add_zero, Nat.zero_add, Nat.add_zero] at t
  rw [Nat.zero_mul, Nat.zero_add] at d
  unfold itvLo itvHi
  rw [h, hx, if_neg (by simp), if_neg (by simp)]
  unfold ofLo ofHi
  rw [if_neg (by omega), if_neg (by omega)]
  exact ⟨by omega, by omega⟩
end Go.Proofs.Ytefdfggkhnahiaa.Sx.Z