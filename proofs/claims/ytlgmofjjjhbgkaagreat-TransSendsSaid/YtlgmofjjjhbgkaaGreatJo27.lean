/-
  What points tell of the Nums: their numbers, and what is within what.; reckons; EvalLinears' contract.; Rows of numbers alone: what a Num of them has; the law's row, and its two rows.; What an expression may be has what it is; of one row of numbers it is that alone.; What variables may be behind an assignment, and where a comparison holds.; EvalHas' contract.; Where a comparison holds: the reference's, and what is told of it.; The law's own test: an assignment is gone over.; Over an edge that does nothing, over an Input: of numbers alone.; TransSends: sends on a channel from which nobody takes.
-/
import Derived.Test.YtlgmofjjjhbgkaaGreatJo15
import Derived.Test.YtlgmofjjjhbgkaaGreatJo26
import Derived.Test.YtlgmofjjjhbgkaaGreatJo13
namespace Go.Proofs.YtlgmofjjjhbgkaaGreat.Sx.Z
open Go.RowKit
theorem met_pt {n x lo hi : Int} {z : Zs} (h : Good n z) (hx : isVarP n x = true) (v : Nat → Int) : Pt n (metZ n x lo hi z) v ↔ Pt n z v ∧ ofLo lo hi ≤ v (x + 1).toNat ∧ v (x + 1).toNat ≤ ofHi lo hi := by
  have hv := isVarP_lt hx
  have e : metZ n x lo hi z = bndZ n (-1) x (0 - ofLo lo hi) (bndZ n x (-1) (ofHi lo hi) z) := if_neg (by omega)
  have q0 : ((-1 : Int) + 1).toNat = 0 := rfl
  rw [e, bnd_pt (good_bnd h _ _ _) (isEnd_nought n) (isVar_end hx), bnd_pt h (isVar_end hx) (isEnd_nought n), q0]
  constructor
  · rintro ⟨⟨p, h1⟩, h2⟩
    have := p.2.1
    exact ⟨p, by omega, by omega⟩
  · rintro ⟨p, h1, h2⟩
    have := p.2.1
    exact ⟨⟨p, by omega⟩, by omega⟩
theorem itv_pts {n x a b : Int} {z : Zs} (g : Good n z) (hx : isVarP n x = true) (va : ∃ v, Pt n z v ∧ v (x + 1).toNat = a) (vb : ∃ v, Pt n z v ∧ v (x + 1).toNat = b) (all : ∀ v, Pt n z v → a ≤ v (x + 1).toNat ∧ v (x + 1).toNat ≤ b) : z.1 = false ∧ itvLo n z.1 z.2 x = a ∧ itvHi n z.1 z.2 x = b := by
  have hR := R_le n
  obtain ⟨ha, hax, ha1⟩ := isVar_R hx
  obtain ⟨v, pv, ev⟩ := va
  obtain ⟨w, pw, ew⟩ := vb
  obtain ⟨e1, e2⟩ := itv_exact g pv.1 hx
  have d0 := g.diag 0 (by omega)
  have t1 := (all _ (pt_at g pv.1 (j := 0) (by omega))).2
  have t2 := (all _ (pt_at g pv.1 (j := (x + 1).toNat) ha)).1
  have d1 := g.diag _ ha
  have t3 := pw.2.2 _ 0 ha (by omega)
  have t4 := pv.2.2 0 _ (by omega) ha
  have z1 := pv.2.1
  have z2 := pw.2.1
  simp only [Nat.zero_mul, Nat.zero_add, Nat.add_zero] at d0 t1 t2 t3 t4
  rw [e1, e2]
  exact ⟨pv.1, by omega, by omega⟩
end Go.Proofs.YtlgmofjjjhbgkaaGreat.Sx.Z
namespace Go.Proofs.YtlgmofjjjhbgkaaGreat.Sx.Z
open Go.RowKit
theorem of_lh {a b : Int} (h : -2147483648 ≤ a ∧ a ≤ b ∧ b ≤ 2147483647) : ofLo a b = a ∧ ofHi a b = b := by
  have e := nm_id (p := (a, b)) (.inr h)
  exact ⟨congrArg Prod.fst e, congrArg Prod.snd e⟩
end Go.Proofs.YtlgmofjjjhbgkaaGreat.Sx.Z
namespace Go.Proofs.YtlgmofjjjhbgkaaGreat.Sx.Z
open Go.RowKit
theorem ent_le {n : Int} {z : Zs} (g : Good n z) (hz : z.1 = false) {i j : Nat} (hi : i < R n) (hj : j < R n) {c : Int} (h : ∀ v, Pt n z v → v i - v j ≤ c) : z.2 (i * 7 + j) ≤ c := by
  have p := h _ (pt_at g hz hj)
  have d := g.diag j hj
  omega
theorem fg_ent {n x : Int} {z : Zs} (hz : z.1 = false) (hx : isVarP n x = true) {v : Nat → Int} (p : Pt n (fgZ n x z) v) {i j : Nat} (hi : i < R n) (hj : j < R n) (hi2 : i ≠ (x + 1).toNat) (hj2 : j ≠ (x + 1).toNat) : v i - v j ≤ z.2 (i * 7 + j) := by
  have hR := R_le n
  have t := p.2.2 i j hi hj
  rw [fg_false hz hx] at t
  dsimp only at t
  rwa [fg_at hi hj hR.2.1, if_neg (by omega), if_neg (by omega)] at t
/-- It has one row of numbers, and no other. -/
def Sg (n : Int) (z : Zs) (p : Nat → Int) : Prop := Good n z ∧ Pt n z p ∧ ∀ v, Pt n z v → ∀ i, i < R n → v i = p i
theorem sg_ent {n : Int} {z : Zs} {p : Nat → Int} (h : Sg n z p) {i j : Nat} (hi : i < R n) (hj : j < R n) : z.2 (i * 7 + j) ≤ p i - p j :=
  ent_le h.1 h.2.1.1 hi hj fun v hv => by rw [h.2.2 v hv i hi, h.2.2 v hv j hj]; exact Int.le_refl _
def setC (n x c : Int) (z : Zs) : Zs := metZ n x (ofLo c c) (ofHi c c) (fgZ n x z)
theorem good_setC {n x c : Int} {z : Zs} (g : Good n z) : Good n (setC n x c z) := good_met (good_fg g _) _ _ _
theorem of_cc {c : Int} (hc : -2147483648 ≤ c ∧ c ≤ 2147483647) : ofLo c c = c ∧ ofHi c c = c := of_lh (by omega)
theorem setC_pt {n x c : Int} {z : Zs} (g : Good n z) (hx : isVarP n x = true) (hc : -2147483648 ≤ c ∧ c ≤ 2147483647) (v : Nat → Int) : Pt n (setC n x c z) v ↔ Pt n (fgZ n x z) v ∧ v (x + 1).toNat = c := by
  have e := of_cc hc
  unfold setC
  rw [met_pt (good_fg g x) hx, e.1, e.2, e.1, e.2]
  constructor
  · rintro ⟨a, b, d⟩; exact ⟨a, by omega⟩
  · rintro ⟨a, b⟩; exact ⟨a, by omega, by omega⟩
theorem sg_set {n x c : Int} {z : Zs} {p : Nat → Int} (h : Sg n z p) (hx : isVarP n x = true) (hc : -2147483648 ≤ c ∧ c ≤ 2147483647) : Sg n (setC n x c z) (upd p (x + 1).toNat c) := by
  have hR := R_le n
  obtain ⟨x1, x2, x3⟩ := isVar_R hx
  refine ⟨good_setC h.1, (setC_pt h.1 hx hc _).2 ⟨pt_fg h.1 hx h.2.1 hc, upd_at _ _ _⟩, fun v hv i hi => ?_⟩
  obtain ⟨pv, ev⟩ := (setC_pt h.1 hx hc v).1 hv
  by_cases hix : i = (x + 1).toNat
  · rw [hix, upd_at]; exact ev
  · rw [upd_ne hix]
    have a := fg_ent h.2.1.1 hx pv hi (show 0 < R n by omega) hix (by omega)
    have b := fg_ent h.2.1.1 hx pv (show 0 < R n by omega) hi (by omega) hix
    have a2 := sg_ent h hi (show 0 < R n by omega)
    have b2 := sg_ent h (show 0 < R n by omega) hi
    have e1 := pv.2.1
    have e2 := h.2.1.2.1
    omega
def rowZ (n : Int) (g : Nat → Int) : Nat → Zs
  | 0 => (false, fun _ => 0)
  | i + 1 => setC n i (g i) (rowZ n g i)
theorem row_sg {n : Int} (hn : 0 ≤ n ∧ n ≤ 6) {g : Nat → Int} (hg : ∀ i : Nat, (i : Int) < n → -2147483648 ≤ g i ∧ g i ≤ 2147483647) : ∀ i : Nat, (i : Int) ≤ n → Sg n (rowZ n g i) (fun q => if q = 0 then 0 else if q ≤ i then g (q - 1) else 0)
  | 0, _ => by
    refine ⟨good_none hn false, ⟨rfl, rfl, fun i j hi hj => ?_⟩, fun v hv i hi => ?_⟩
    · have e : ∀ q : Nat, (if q = 0 then 0 else if q ≤ 0 then g (q - 1) else 0) = (0 : Int) := fun q => by
        split
        · rfl
        · rw [if_neg (by omega)]
      have z0 : (rowZ n g 0).2 (i * 7 + j) = 0 := rfl
      dsimp only
      rw [e, e]; omega
    · have hR := R_le n
      have a := hv.2.2 i 0 hi (by omega)
      have b := hv.2.2 0 i (by omega) hi
      have c := hv.2.1
      dsimp only [rowZ] at a b
      show v i = if i = 0 then 0 else if i ≤ 0 then g (i - 1) else 0
      split
      · omega
      · rw [if_neg (by omega)]; omega
  | i + 1, h => by
    have ih := row_sg hn hg i (by omega)
    have hx : isVarP n i = true := isVar_of hn (by omega)
    have s := sg_set ih hx (hg i (by omega))
    have e : ((i : Int) + 1).toNat = i + 1 := by omega
    rw [e] at s
    have ef : ∀ q, upd (fun q => if q = 0 then 0 else if q ≤ i then g (q - 1) else 0) (i + 1) (g i) q = if q = 0 then 0 else if q ≤ i + 1 then g (q - 1) else 0 := fun q => by
      by_cases hq : q = i + 1
      · subst hq; rw [upd_at, if_neg (by omega), if_pos (by omega)]; rfl
      · rw [upd_ne hq]
        by_cases h0 : q = 0
        · rw [if_pos h0, if_pos h0]
        · rw [if_neg h0, if_neg h0]
          by_cases h1 : q ≤ i
          · rw [if_pos h1, if_pos (by omega)]
          · rw [if_neg h1, if_neg (by omega)]
    rw [funext ef] at s
    exact s
end Go.Proofs.YtlgmofjjjhbgkaaGreat.Sx.Z
namespace Go.Proofs.YtlgmofjjjhbgkaaGreat.Sx.Z
open Go.RowKit
theorem rec_0 (I : D) (k n v : Int) : recP I (.mk k n v []) = if k = 1 then (ofI n n, (false, false)) else if k = 2 ∧ 0 ≤ v ∧ v < I.len then (prI I v, (false, false)) else noE := by
  rw [recP.eq_3 _ _ _ _ _ (fun a h => by cases h) (fun a b h => by cases h)]
theorem rec_1 (I : D) (a : Xp) : recP I (.mk 3 0 0 [a]) = negE (recP I a) := by
  rw [recP]; simp
theorem rec_2 (I : D) (k : Int) (h : 4 ≤ k) (a b : Xp) : recP I (.mk k 0 0 [a, b]) = doE k (bothI (recP I a) (recP I b)) := by
  rw [recP, if_neg (by omega), if_neg (by omega)]
theorem of_nn {n : Int} (h : -2147483648 ≤ n ∧ n ≤ 2147483647) : ofI n n = (n, n) := nm_id (p := (n, n)) (.inr (by dsimp only; omega))
theorem neg_eq (r : IE) : negE r = doE 5 (bothI ((0, 0), (false, false)) r) := by
  unfold negE doE bothI negI
  rw [if_neg (by decide)]
  show _ = ((doI 5 (0, 0) r.1).1, tg (tg (false, false) r.2) (doI 5 (0, 0) r.1).2)
  have : tg (false, false) r.2 = r.2 := by unfold tg; simp
  rw [this]
/-- Of one row of numbers. -/
def alone (t : Int × Int) : IE := (if t.2 = 0 then (t.1, t.1) else (1, 0), (decide (t.2 = 2), decide (t.2 = 3)))
theorem do_alone {k : Int} (h4 : 4 ≤ k) (h8 : k ≤ 8) {s t : Int × Int} (cs : (s.2 = 0 ∨ s.2 = 2 ∨ s.2 = 3) ∧ (s.2 ≠ 0 → s.1 = 0) ∧ -2147483648 ≤ s.1 ∧ s.1 ≤ 2147483647) (ct : (t.2 = 0 ∨ t.2 = 2 ∨ t.2 = 3) ∧ (t.2 ≠ 0 → t.1 = 0) ∧ -2147483648 ≤ t.1 ∧ t.1 ≤ 2147483647) : doE k (bothI (alone s) (alone t)) = alone (opT k s t) := by
  obtain ⟨a, p⟩ := s
  obtain ⟨b, q⟩ := t
  dsimp only at cs ct
  have tn : ∀ x : Bool × Bool, tg x (false, false) = x := fun x => by unfold tg; simp
  have tl : ∀ x : Bool × Bool, tg (false, false) x = x := fun x => by unfold tg; simp
  by_cases hp : p = 0
  · subst hp
    have ea : alone (a, 0) = ((a, a), (false, false)) := rfl
    by_cases hq : q = 0
    · subst hq
      have eb : alone (b, 0) = ((b, b), (false, false)) := rfl
      have nd : ¬ NoDo k (a, a) (b, b) := by unfold NoDo; dsimp only; omega
      have ok := (doI_ok nd (.inr (by dsimp only; omega)) (.inr (by dsimp only; omega))).2
      have e : bothI ((a, a), (false, false)) ((b, b), (false, false)) = ((a, a), (b, b), (false, false)) := by
        unfold bothI; rw [if_neg (by dsimp only; omega)]; rfl
      rw [ea, eb, e, opT_v rfl rfl]
      unfold doE
      dsimp only at ok ⊢
      rw [tl]
      generalize doI k (a, a) (b, b) = r at ok ⊢
      obtain ⟨⟨z0, z1⟩, ⟨ov, dz⟩⟩ := r
      dsimp only at ok ⊢
      have en := errP_or k a b
      have hov : ov = true → errP k a b = 2 := fun h => by
        obtain ⟨x, y, x0, x1, y0, y1, h2⟩ := ok.sure (.inr ⟨rfl, rfl⟩) h
        have ex : x = a := by omega
        have ey : y = b := by omega
        rw [ex, ey] at h2; exact h2
      have hov2 : errP k a b = 2 → ov = true := fun h => ok.over a b (Int.le_refl _) (Int.le_refl _) (Int.le_refl _) (Int.le_refl _) h
      have hdz : dz = decide (errP k a b = 3) := by
        rw [ok.zero]
        by_cases h7 : 7 ≤ k ∧ b = 0
        · have : errP k a b = 3 := by omega
          rw [this]; simp; omega
        · have : ¬ errP k a b = 3 := by omega
          rw [decide_eq_false this]; simp; omega
      have hv : ov = decide (errP k a b = 2) := by
        by_cases h2 : errP k a b = 2
        · rw [hov2 h2, decide_eq_true h2]
        · rw [decide_eq_false h2]
          cases ov with
          | false => rfl
          | true => exact absurd (hov rfl) h2
      by_cases h0 : errP k a b = 0
      · obtain ⟨q1, q2⟩ := (ok.alone ⟨rfl, rfl⟩).2 h0
        rw [if_pos h0, hv, hdz, h0, q1, q2]
        rfl
      · obtain ⟨q1, q2⟩ := (ok.alone ⟨rfl, rfl⟩).1 h0
        rw [if_neg h0, hv, hdz, q1, q2]
        unfold alone
        rw [if_neg h0]
    · have eb : alone (b, q) = ((1, 0), (decide (q = 2), decide (q = 3))) := by unfold alone; rw [if_neg hq]
      have e : bothI ((a, a), (false, false)) ((1, 0), (decide (q = 2), decide (q = 3))) = ((a, a), (1, 0), (decide (q = 2), decide (q = 3))) := by
        unfold bothI; rw [if_neg (by dsimp only; omega), tl]
      have d : doI k (a, a) (1, 0) = ((1, 0), (false, false)) := doI_none (.inr (.inl (by decide)))
      rw [ea, eb, e, opT_r rfl hq]
      unfold doE
      dsimp only
      rw [d, tn]
      unfold alone
      rw [if_neg hq]
  · have ea : alone (a, p) = ((1, 0), (decide (p = 2), decide (p = 3))) := by unfold alone; rw [if_neg hp]
    have e : bothI ((1, 0), (decide (p = 2), decide (p = 3))) (alone (b, q)) = ((1, 0), (1, 0), (decide (p = 2), decide (p = 3))) := by
      unfold bothI; rw [if_pos (show (0 : Int) < 1 by decide)]
    have d : doI k (1, 0) (1, 0) = ((1, 0), (false, false)) := doI_none (.inl (by decide))
    rw [ea, e, opT_l hp]
    unfold doE
    dsimp only
    rw [d, tn]
    unfold alone
    rw [if_neg hp]
theorem rec_alone {w : Int} {I : D} {g : Int → Int} (hw : w = I.len) (hg : InV w g) (hv : ∀ v, 0 ≤ v → v < w → prI I v = (g v, g v)) {e : Xp} (h : Tm w e) : recP I e = alone (evT g e) := by
  induction h with
  | num n h0 h1 =>
    rw [rec_0, if_pos rfl, ev_0, if_pos rfl, of_nn (by omega)]
    rfl
  | var v h0 h1 =>
    rw [rec_0, if_neg (by decide), if_pos ⟨rfl, h0, by omega⟩, ev_0, if_neg (by decide), hv v h0 h1]
    rfl
  | neg a ha ih =>
    rw [rec_1, ev_1, neg_eq, ih]
    exact do_alone (by omega) (by omega) (s := (0, 0)) ⟨.inl rfl, fun h => absurd rfl h, by decide, by decide⟩ (ev_in hg ha)
  | bin k a b h4 h8 ha hb ia ib =>
    rw [rec_2 _ _ h4, ev_2, ia, ib]
    exact do_alone h4 h8 (ev_in hg ha) (ev_in hg hb)
/-- A variable's number, or nought, and so much more. -/
theorem lin_ev {w : Int} (hw : 1 ≤ w) {g : Int → Int} (hg : InV w g) {e : Xp} (h : Tm w e) {y b : Int} (hl : linP e = some (y, b)) (h0 : (evT g e).2 = 0) : (evT g e).1 = (if y = -1 then 0 else g y) + b := by
  induction h generalizing y b with
  | num n n0 n1 =>
    rw [linP.eq_2 _ _ _ _ (fun a b h => by cases h), if_pos rfl] at hl
    unfold amtP at hl
    rw [if_neg (by omega)] at hl
    obtain ⟨rfl, rfl⟩ := Prod.mk.inj (Option.some.inj hl)
    rw [ev_0, if_pos rfl, if_pos rfl]; dsimp only; omega
  | var v v0 v1 =>
    rw [linP.eq_2 _ _ _ _ (fun a b h => by cases h), if_neg (by decide), if_pos rfl] at hl
    obtain ⟨rfl, rfl⟩ := Prod.mk.inj (Option.some.inj hl)
    rw [ev_0, if_neg (by decide), if_neg (by omega)]; dsimp only; omega
  | neg a ha ih =>
    rw [linP.eq_2 _ _ _ _ (fun a b h => by cases h), if_neg (by decide), if_neg (by decide), if_neg (by decide)] at hl
    cases hl
  | bin k a c h4 h8 ha hb ia ib =>
    rw [linP, if_neg (by omega), if_neg (by omega)] at hl
    rw [ev_2] at h0 ⊢
    have ka := (lin_same hw ha).2
    have kc := (lin_same hw hb).2
    have ea := ev_in hg ha
    have ec := ev_in hg hb
    split at hl
    · rename_i k45
      generalize linP a = L at *
      generalize linP c = R at *
      generalize evT g a = s at *
      generalize evT g c = t at *
      rcases L with _ | ⟨x, m⟩
      · rw [comb_l] at hl; cases hl
      · rcases R with _ | ⟨z, p⟩
        · rw [comb_r] at hl; cases hl
        · have s0 : s.2 = 0 := by
            by_cases q : s.2 = 0
            · exact q
            · rw [opT_l q] at h0; exact absurd h0 q
          have t0 : t.2 = 0 := by
            by_cases q : t.2 = 0
            · exact q
            · rw [opT_r s0 q] at h0; exact absurd h0 q
          have e1 := ia rfl s0
          have e2 := ib rfl t0
          have xm := ka x m rfl
          have zp := kc z p rfl
          have w1 : IntKind.i64.wrap (m - p) = m - p := wr _ (by omega)
          have w2 : IntKind.i64.wrap (m + p) = m + p := wr _ (by omega)
          have er := errP_or k s.1 t.1
          rw [opT_v s0 t0] at h0 ⊢
          have e0 : errP k s.1 t.1 = 0 := by
            by_cases q : errP k s.1 t.1 = 0
            · exact q
            · rw [if_neg q] at h0; exact absurd h0 q
          rw [if_pos e0]
          rw [comb_some, w1, w2] at hl
          have am : ∀ {u v : Int}, amtP u v = some (y, b) → u = y ∧ v = b := fun {u v} h => by
            unfold amtP at h
            split at h
            · cases h
            · exact Prod.mk.inj (Option.some.inj h)
          dsimp only
          split at hl
          · rename_i c5
            obtain ⟨rfl, rfl⟩ := am hl
            have v5 : valP k s.1 t.1 = s.1 - t.1 := by rw [c5.1]; rfl
            rw [v5, e1, e2, c5.2]; simp; omega
          · split at hl
            · rename_i c4
              obtain ⟨rfl, rfl⟩ := am hl
              have v5 : valP k s.1 t.1 = s.1 + t.1 := by rw [c4.1]; rfl
              rw [v5, e1, e2, c4.2]; simp; omega
            · split at hl
              · rename_i c4
                obtain ⟨rfl, rfl⟩ := am hl
                have v5 : valP k s.1 t.1 = s.1 + t.1 := by rw [c4.1]; rfl
                rw [v5, e1, e2, c4.2]; simp; omega
              · cases hl
    · cases hl
end Go.Proofs.YtlgmofjjjhbgkaaGreat.Sx.Z
namespace Go.Proofs.YtlgmofjjjhbgkaaGreat.Sx.Z
open Go.RowKit
theorem sg_of {n : Int} {w : Zs} {q : Nat → Int} (g : Good n w) (p : Pt n w q) (h : ∀ v, Pt n w v → ∀ i, i < R n → v i - v 0 ≤ q i - q 0 ∧ v 0 - v i ≤ q 0 - q i) : Sg n w q :=
  ⟨g, p, fun v hv i hi => by have := h v hv i hi; have a := hv.2.1; have b := p.2.1; omega⟩
theorem sg_copy {n x y b : Int} {z : Zs} {p : Nat → Int} (s : Sg n z p) (hx : isVarP n x = true) (hy : isEndP n y = true) (hf : -1099511627776 ≤ b ∧ b ≤ 1099511627776) (hb : -2147483648 ≤ p (y + 1).toNat + b ∧ p (y + 1).toNat + b ≤ 2147483647) : Sg n (copyZ n x y b z) (upd p (x + 1).toNat (p (y + 1).toNat + b)) := by
  have hR := R_le n
  have g := s.1
  obtain ⟨ha, hac, ha1⟩ := isVar_R hx
  have pc := pt_copy g hx hy hf s.2.1 hb
  refine sg_of (good_copy g _ _ _) pc fun v hv i hi => ?_
  have hz := s.2.1.1
  unfold copyZ at hv
  rw [if_neg (by rw [hz, hx, hy]; simp), if_neg (by simp only [Bool.or_eq_true, decide_eq_true_eq]; omega)] at hv
  have g2 := cp2_good g y b
  by_cases hxy : x = y
  · subst hxy
    rw [if_pos (by simp)] at hv
    have hc : (cp2 n x b z).1 = false := hv.1
    have en : ∀ i j, i < R n → j < R n → (cp2 n x b z).2 (i * 7 + j) ≤ p i - p j := fun i j hi hj => Int.le_trans (cp2_mono g hy hc hi hj) (sg_ent s hi hj)
    have e : ∀ i j, (shZ n (x + 1).toNat b (cp2 n x b z)).2 (i * 7 + j) = shTo (cp2 n x b z).2 (x + 1).toNat b (R n) (i * 7 + j) := fun i j => by
      show shiftF n (cp2 n x b z).1 (cp2 n x b z).2 (x + 1).toNat b _ = _
      unfold shiftF
      rw [if_neg (by rw [hc]; simp)]; rfl
    have t1 := hv.2.2 i 0 hi (by omega)
    have t2 := hv.2.2 0 i (by omega) hi
    rw [e, sh_at hi (by omega) hR.2.1] at t1
    rw [e, sh_at (by omega) hi hR.2.1] at t2
    have n1 := en i 0 hi (by omega)
    have n2 := en 0 i (by omega) hi
    by_cases hia : i = (x + 1).toNat
    · rw [if_pos ⟨hia, by omega⟩] at t1
      rw [if_neg (by omega), if_pos ⟨hia, by omega⟩] at t2
      rw [hia, upd_at, upd_ne (by omega)]
      subst hia
      omega
    · rw [if_neg (by omega), if_neg (by omega)] at t1
      rw [if_neg (by omega), if_neg (by omega)] at t2
      rw [upd_ne hia, upd_ne (by omega)]
      omega
  · rw [if_neg (by simpa using hxy)] at hv
    have hyc := isEnd_R hy
    have hne : (y + 1).toNat ≠ (x + 1).toNat := fun e => hxy (by omega)
    have g3 := good_fg g2 x
    obtain ⟨p1, h1⟩ := (bnd_pt (good_bnd g3 _ _ _) hy (isVar_end hx) v).1 hv
    obtain ⟨p2, h2⟩ := (bnd_pt g3 (isVar_end hx) hy v).1 p1
    have hc : (cp2 n y b z).1 = false := p2.1
    have en : ∀ i j, i < R n → j < R n → i ≠ (x + 1).toNat → j ≠ (x + 1).toNat → v i - v j ≤ p i - p j := fun i j hi hj hi2 hj2 => Int.le_trans (fg_ent hc hx p2 hi hj hi2 hj2) (Int.le_trans (cp2_mono g hy hc hi hj) (sg_ent s hi hj))
    by_cases hia : i = (x + 1).toNat
    · have a1 := en (y + 1).toNat 0 hyc.1 (by omega) hne (by omega)
      have a2 := en 0 (y + 1).toNat (by omega) hyc.1 (by omega) hne
      rw [hia, upd_at, upd_ne (by omega)]
      omega
    · rw [upd_ne hia, upd_ne (by omega)]
      exact ⟨en i 0 hi (by omega) hia (by omega), en 0 i (by omega) hi (by omega) hia⟩
theorem met_sub {n x lo hi : Int} {z : Zs} (g : Good n z) (hx : isEndP n x = true) {v : Nat → Int} (p : Pt n (metZ n x lo hi z) v) : Pt n z v := by
  by_cases h : x < 0
  · have e : metZ n x lo hi z = z := if_pos h
    rwa [e] at p
  · have hv : isVarP n x = true := by
      unfold isEndP at hx
      rw [Bool.or_eq_true] at hx
      rcases hx with h1 | h1
      · have : x = -1 := by simpa using h1
        omega
      · exact h1
    exact ((met_pt g hv v).1 p).1
theorem met_in {n x lo hi : Int} {z : Zs} (g : Good n z) (hx : isEndP n x = true) {v : Nat → Int} (p : Pt n z v) (h : 0 ≤ x → ofLo lo hi ≤ v (x + 1).toNat ∧ v (x + 1).toNat ≤ ofHi lo hi) : Pt n (metZ n x lo hi z) v := by
  by_cases h0 : x < 0
  · have e : metZ n x lo hi z = z := if_pos h0
    rwa [e]
  · have hv : isVarP n x = true := by
      unfold isEndP at hx
      rw [Bool.or_eq_true] at hx
      rcases hx with h1 | h1
      · have : x = -1 := by simpa using h1
        omega
      · exact h1
    exact (met_pt g hv v).2 ⟨p, h (by omega)⟩
theorem sg_met {n x lo hi : Int} {z : Zs} {p : Nat → Int} (s : Sg n z p) (hx : isEndP n x = true) (h : 0 ≤ x → ofLo lo hi ≤ p (x + 1).toNat ∧ p (x + 1).toNat ≤ ofHi lo hi) : Sg n (metZ n x lo hi z) p :=
  ⟨good_met s.1 _ _ _, met_in s.1 hx s.2.1 h, fun v hv => s.2.2 v (met_sub s.1 hx hv)⟩
/-- The numbers of variables, by the variable. -/
def gI (h : Nat → Int) : Int → Int := fun v => h v.toNat
theorem vz_end (h : Nat → Int) {y : Int} (hy : -1 ≤ y) : vz h (y + 1).toNat = if y = -1 then 0 else gI h y := by
  unfold vz gI
  by_cases e : y = -1
  · subst e; rfl
  · rw [if_neg (by omega), if_neg e]
    congr 1; omega
theorem sg_itv {n : Int} {z : Zs} {h : Nat → Int} (s : Sg n z (vz h)) {v : Int} (hv : 0 ≤ v ∧ v < n) : prI (itD n.toNat n z) v = (gI h v, gI h v) := by
  have hx := isVar_of s.1.n0 hv
  obtain ⟨a, b, c⟩ := isVar_R hx
  have e3 := vz_end h (y := v) (by omega)
  rw [if_neg (by omega)] at e3
  have t := itv_pts s.1 hx ⟨_, s.2.1, e3⟩ ⟨_, s.2.1, e3⟩ fun w hw => by
    have := s.2.2 w hw _ a
    omega
  rw [itD_pr (by omega), t.2.1, t.2.2]
section
variable {n : Int} {z : Zs} {h : Nat → Int} (g : Good n z) (h1 : 1 ≤ n) (hg : InV n (gI h)) {e : Xp} (ht : Tm n e)
include g h1 hg ht
theorem eva_alone (s : Sg n z (vz h)) : recP (itD n.toNat n z) e = alone (evT (gI h) e) := by
  have h0 := g.n0
  exact rec_alone (w := n) (by rw [itD_len]; omega) hg (fun v v0 v1 => sg_itv s ⟨v0, v1⟩) ht
theorem asg_sg (s : Sg n z (vz h)) {x : Int} (hx : 0 ≤ x ∧ x < n) (he : (evT (gI h) e).2 = 0) : Sg n (asgZ n x e z) (upd (vz h) (x + 1).toNat (evT (gI h) e).1) := by
  have h0 := g.n0
  have vx := isVar_of h0 hx
  have al := eva_alone g h1 hg ht s
  have en := ev_in hg ht
  have ls := (lin_same h1 ht).2
  have le := @lin_ev n h1 (gI h) hg e ht
  have li := @lin_in e
  unfold asgZ evaP
  rw [if_neg (by rw [s.2.1.1]; simp), al]
  generalize evT (gI h) e = t at *
  have ea : (alone t).1 = (t.1, t.1) := by unfold alone; rw [if_pos he]
  have o := of_cc (c := t.1) (by omega)
  rw [ea]
  unfold asgR
  rw [if_neg (by dsimp only; omega)]
  generalize linP e = L at *
  rcases L with _ | ⟨y, b⟩
  · have := sg_set s vx (c := t.1) (by omega)
    unfold setC at this
    rw [o.1, o.2] at this
    exact this
  · have hy := ls y b rfl
    have hb := li rfl
    have ev := le rfl he
    have ye := isEnd_of (n := n) h0 (x := y) (by omega)
    have e3 := vz_end h (y := y) (by omega)
    rw [← e3] at ev
    have pc := sg_copy s vx ye hb (by rw [← ev]; omega)
    rw [← ev] at pc
    exact sg_met pc (isVar_end vx) fun _ => by dsimp only; rw [o.1, o.2, upd_at]; omega
end
end Go.Proofs.YtlgmofjjjhbgkaaGreat.Sx.Z
namespace Go.Proofs.YtlgmofjjjhbgkaaGreat.Sx.Z
open Go.RowKit
def hz (H : Nat → Int) : Nat → Int := fun q => if q < 3 then H q else 0
end Go.Proofs.YtlgmofjjjhbgkaaGreat.Sx.Z
namespace Go.Proofs.YtlgmofjjjhbgkaaGreat.Sx.Z
open Go.RowKit
def hP (op a b : Int) : Bool := if op = 1 then a == b else if op = 2 then a != b else if op = 3 then decide (a < b) else if op = 4 then decide (a ≤ b) else if op = 5 then decide (a > b) else (op == 6) && decide (a ≥ b)
section
variable {n : Int} {z : Zs} (g : Good n z) (h1 : 1 ≤ n) {L R : Xp} (hL : Tm n L) (hR : Tm n R)
include g h1 hL hR
end
end Go.Proofs.YtlgmofjjjhbgkaaGreat.Sx.Z
namespace Go.Proofs.YtlgmofjjjhbgkaaGreat.Sx.Z
open Go.RowKit
/-- One process of two nodes, with an edge. -/
def grD (es : List (List D)) : D := .l [[.i 2, .l es, .l []]]
def edS : List D := [D.i 0, D.i 1, D.i 1, D.i 0, D.i 0, D.i 0, D.i 1, D.i 3, D.i 0, D.l [], D.i 0, D.i 0, D.i 0, D.i 0, D.l [], D.i 0, D.i 0, D.i 0, D.l []]
theorem upd_vz (h : Nat → Int) (k : Nat) (c : Int) : upd (vz h) (k + 1) c = vz (upd h k c) := by
  funext q
  unfold vz
  by_cases hq : q = k + 1
  · subst hq
    rw [upd_at, if_neg (by omega), Nat.add_sub_cancel, upd_at]
  · rw [upd_ne hq]
    by_cases h0 : q = 0
    · rw [if_pos h0, if_pos h0]
    · rw [if_neg h0, if_neg h0, upd_ne (by omega)]
theorem zero_sg {n : Int} (hn : 0 ≤ n ∧ n ≤ 6) : Sg n (false, fun _ => 0) (vz fun _ => 0) := by
  have h := row_sg hn (g := fun _ => 0) (fun i _ => by omega) 0 hn.1
  have e : (fun q : Nat => if q = 0 then (0 : Int) else if q ≤ 0 then (0 : Int) else 0) = vz (fun _ => 0) := funext fun q => by unfold vz; split <;> simp
  rw [← e]
  exact h
theorem sg_lohi {n : Int} {z : Zs} {h : Nat → Int} (s : Sg n z (vz h)) {v : Int} (hv : 0 ≤ v ∧ v < n) : itvLo n z.1 z.2 v = gI h v ∧ itvHi n z.1 z.2 v = gI h v := by
  have a := sg_itv s hv
  rw [itD_pr (m := n.toNat) (by omega)] at a
  exact ⟨congrArg Prod.fst a, congrArg Prod.snd a⟩
theorem asg_one {n : Int} {z : Zs} {h : Nat → Int} (h1 : 1 ≤ n) (hg : InV n (gI h)) {e : Xp} (ht : Tm n e) (s : Sg n z (vz h)) {x : Int} (hx : 0 ≤ x ∧ x < n) :
    evaP n.toNat n z e = alone (evT (gI h) e) ∧ ((evT (gI h) e).2 = 0 → Sg n (asgZ n x e z) (vz (upd h x.toNat (evT (gI h) e).1))) ∧ ((evT (gI h) e).2 ≠ 0 → asgZ n x e z = (true, fun _ => 0)) := by
  have e1 : evaP n.toNat n z e = alone (evT (gI h) e) := by
    unfold evaP
    rw [if_neg (by rw [s.2.1.1]; decide)]
    exact eva_alone s.1 h1 hg ht s
  refine ⟨e1, fun he => ?_, fun he => ?_⟩
  · have := asg_sg s.1 h1 hg ht s hx he
    rwa [show (x + 1).toNat = x.toNat + 1 by omega, upd_vz] at this
  · unfold asgZ
    rw [e1]
    unfold alone
    rw [if_neg he]
    exact if_pos (show (0 : Int) < 1 by decide)
theorem nonZ_sg {n : Int} {z : Zs} {p : Nat → Int} (s : Sg n z p) : nonZ z = z := if_neg (by rw [s.2.1.1]; decide)
theorem ex_nil (k n v : Int) : ex k n v (.l []) = .mk k n v [] := by
  show Xp.mk k n v (exs _) = _
  rw [List.length_eq_zero_iff.1 (exs_len (.l []))]
/-- The number 3, assigned where one variable is 0. -/
theorem three : Sg 1 (stpZ (grD [edS]) 0 0 1 (false, fun _ => 0)) (vz (upd (fun _ => 0) 0 3)) ∧ stpK (grD [edS]) 0 0 1 (false, fun _ => 0) = .l [] := by
  have hg : InV 1 (gI fun _ => 0) := fun v _ _ => by show -2147483648 ≤ (0 : Int) ∧ (0 : Int) ≤ 2147483647; omega
  have s0 := zero_sg (n := 1) (by omega)
  obtain ⟨a, b, _⟩ := asg_one (by omega) hg (Tm.num (w := 1) 3 (by omega) (by omega)) s0 (x := 0) (by omega)
  have ev : evT (gI fun _ => 0) (.mk 1 3 0 []) = (3, 0) := by rw [ev_0, if_pos rfl]
  rw [ev] at a b
  have hZ : stpZ (grD [edS]) 0 0 1 (false, fun _ => 0) = asgZ 1 0 (ex 1 3 0 (.l [])) (false, fun _ => 0) := rfl
  have hK : stpK (grD [edS]) 0 0 1 (false, fun _ => 0) = kE (.l []) (evaP (1 : Int).toNat 1 (false, fun _ => 0) (ex 1 3 0 (.l []))).2 := rfl
  rw [hZ, hK, ex_nil, a]
  exact ⟨b rfl, rfl⟩
noncomputable def tstepsS : FSpec := fun ds _ => match ds with
  | [] => some { val := .one (.sc (.bool (.sym (true)))), vc := [] }
  | _ => none
noncomputable def tstepsC : Con := con [] tstepsS
theorem tsteps_ok : ConOK Tryz.prog 13 tstepsC := by
  refine fn_ob tt_ok mixed Tryz.func13 rfl (fun _ _ => by kernel_rfl) (A := fun ds => ⟨fun _ => Cons.of [(9, tstepC), (7, tstartC), (11, temptyC), (16, iconstC), (29, tnoneC)], fun _ => none, fun k => match k, ds with | 2, [] => some { ι := Bool, pre := fun _ _ => True, μ := fun _ => 0, st := fun s _ => famR s [(1, .one (.sc (.ptr (s.nx - 1) (.lit 0))))] [0] [(s.nx - 1, .own 39 ([.c .nils, .c (.rows 35 (grD [edS])), .c (.rows 3 (.l [[.i 1]]))])), (s.nx + 32, .gone), (s.nx + 40, .gone)] [] } | _, _ => none⟩) (fun _ _ => (cons_cons tstep_ok (cons_cons tstart_ok (cons_cons tempty_ok (cons_cons iconst_ok (cons_cons tnone_ok cons_nil)))))) (by kernel_rfl) ?_
  intro ds fr
  unfold tstepsS
  split
  · skip
    refine kmp (q := ((0 : Nat) + (1 : Nat) ≤
 (D.l
 [[D.i (0 : Int), D.i (1 : Int), D.i (1 : Int), D.i (0 : Int), D.i (0 : Int), D.i (0 : Int), D.i (1 : Int), D.i (3 : Int), D.i (0 : Int), D.l [],
 D.i (0 : Int), D.i (0 : Int), D.i (0 : Int), D.i (0 : Int), D.l [], D.i (0 : Int), D.i (0 : Int), D.i (0 : Int), D.l []]]).len ∧
 ∃ (i : Bool),
 True ∧
 (0 : Nat) + (1 : Nat) ≤
 (D.l
 [[D.i (2 : Int),
 (D.l
 [[D.i (0 : Int), D.i (1 : Int), D.i (1 : Int), D.i (0 : Int), D.i (0 : Int), D.i (0 : Int), D.i (1 : Int), D.i (3 : Int),
 D.i (0 : Int), D.l [], D.i (0 : Int), D.i (0 : Int), D.i (0 : Int), D.i (0 : Int), D.l [], D.i (0 : Int), D.i (0 : Int),
 D.i (0 : Int), D.l []]]).sub
 (0 : Nat) ((0 : Nat) + (1 : Nat)),
 D.l []]]).len ∧
 (0 : Nat) + (1 : Nat) ≤ (D.l [[D.i (1 : Int)]]).len ∧
 (0 : Nat) + (1 : Nat) ≤ (D.l [[D.i (1 : Int)]]).len ∧
 (0 : Nat) + (1 : Nat) ≤
 (D.l
 [[D.i (2 : Int),
 (D.l
 [[D.i (0 : Int), D.i (1 : Int), D.i (1 : Int), D.i (0 : Int), D.i (0 : Int), D.i (0 : Int), D.i (1 : Int), D.i (3 : Int),
 D.i (0 : Int), D.l [], D.i (0 : Int), D.i (0 : Int), D.i (0 : Int), D.i (0 : Int), D.l [], D.i (0 : Int), D.i (0 : Int),
 D.i (0 : Int), D.l []]]).sub
 (0 : Nat) ((0 : Nat) + (1 : Nat)),
 D.l []]]).len ∧
 (0 : Nat) + (1 : Nat) ≤
 (D.l
 [[D.i (2 : Int),
 (D.l
 [[D.i (0 : Int), D.i (1 : Int), D.i (1 : Int), D.i (0 : Int), D.i (0 : Int), D.i (0 : Int), D.i (1 : Int), D.i (3 : Int),
 D.i (0 : Int), D.l [], D.i (0 : Int), D.i (0 : Int), D.i (0 : Int), D.i (0 : Int), D.l [], D.i (0 : Int), D.i (0 : Int),
 D.i (0 : Int), D.l []]]).sub
 (0 : Nat) ((0 : Nat) + (1 : Nat)),
 D.l []]]).len ∧
 (0 : Nat) + (1 : Nat) ≤ (D.l [[D.i (1 : Int)]]).len ∧
 false = false ∧
 List.drop ((0 : Nat))
 (List.take ((0 : Nat) + (1 : Nat))
 [[D.i (2 : Int),
 (D.l
 [[D.i (0 : Int), D.i (1 : Int), D.i (1 : Int), D.i (0 : Int), D.i (0 : Int), D.i (0 : Int), D.i (1 : Int),
 D.i (3 : Int), D.i (0 : Int), D.l [], D.i (0 : Int), D.i (0 : Int), D.i (0 : Int), D.i (0 : Int), D.l [],
 D.i (0 : Int), D.i (0 : Int), D.i (0 : Int), D.l []]]).sub
 (0 : Nat) ((0 : Nat) + (1 : Nat)),
 D.l []]]) =
 [[D.i (2 : Int), D.l [edS], D.l []]] ∧
 List.drop ((0 : Nat)) (List.take ((0 : Nat) + (1 : Nat)) [[D.i (1 : Int)]]) = [[D.i (1 : Int)]]) ∧
 ∀ (i : Bool),
 True →
 (D.l []).len ≤ (1000 : Nat) ∧
 (NumOK (topN (varP (D.l [[D.i (1 : Int)]]) (0 : Int))) false
 (itD (topN (varP (D.l [[D.i (1 : Int)]]) (0 : Int))).toNat (topN (varP (D.l [[D.i (1 : Int)]]) (0 : Int))) (false, fun (x : Nat) => (0 : Int)))
 false fun (x : Nat) => (0 : Int)) ∧
 false = false ∧
 (0 : Int) < topN (varP (D.l [[D.i (1 : Int)]]) (0 : Int)) ∧
 topN (varP (D.l [[D.i (1 : Int)]]) (0 : Int)) = topN (varP (D.l [[D.i (1 : Int)]]) (0 : Int)) ∧
 edgeB (D.l []) (grD [edS]) (0 : Int) (0 : Int) = true ∧
 (repD (D.l []).len [D.i (0 : Int), D.i (0 : Int)]).len = (D.l []).len ∧
 (repD (D.l []).len [D.i (1 : Int)]).len = (D.l []).len ∧
 (D.l []).len ≤ (1000 : Nat) ∧
 ((1 : Int) = (0 : Int) ∨ (1 : Int) = (1 : Int) ∨ (1 : Int) = (5 : Int) ∨ (1 : Int) = (6 : Int)) ∧
 (stpK (grD [edS]) (0 : Int) (0 : Int) (topN (varP (D.l [[D.i (1 : Int)]]) (0 : Int))) (false, fun (x : Nat) => (0 : Int))).len ≤
 (1 : Nat) ∧
 ((!(nonZ
 (stpZ (grD [edS]) (0 : Int) (0 : Int) (topN (varP (D.l [[D.i (1 : Int)]]) (0 : Int)))
 (false, fun (x : Nat) => (0 : Int)))).fst &&
 (↑(itD (topN (varP (D.l [[D.i (1 : Int)]]) (0 : Int))).toNat (topN (varP (D.l [[D.i (1 : Int)]]) (0 : Int)))
 (nonZ
 (stpZ (grD [edS]) (0 : Int) (0 : Int) (topN (varP (D.l [[D.i (1 : Int)]]) (0 : Int)))
 (false, fun (x : Nat) => (0 : Int))))).len :
 Int) ==
 (1 : Int)) =
 true ∧
 True →
 (0 : Nat) <
 (itD (topN (varP (D.l [[D.i (1 : Int)]]) (0 : Int))).toNat (topN (varP (D.l [[D.i (1 : Int)]]) (0 : Int)))
 (nonZ
 (stpZ (grD [edS]) (0 : Int) (0 : Int) (topN (varP (D.l [[D.i (1 : Int)]]) (0 : Int)))
 (false, fun (x : Nat) => (0 : Int))))).len) ∧
 ((!(nonZ
 (stpZ (grD [edS]) (0 : Int) (0 : Int) (topN (varP (D.l [[D.i (1 : Int)]]) (0 : Int)))
 (false, fun (x : Nat) => (0 : Int)))).fst &&
 (↑(itD (topN (varP (D.l [[D.i (1 : Int)]]) (0 : Int))).toNat (topN (varP (D.l [[D.i (1 : Int)]]) (0 : Int)))
 (nonZ
 (stpZ (grD [edS]) (0 : Int) (0 : Int) (topN (varP (D.l [[D.i (1 : Int)]]) (0 : Int)))
 (false, fun (x : Nat) => (0 : Int))))).len :
 Int) ==
 (1 : Int) &&
 (itvLo (topN (varP (D.l [[D.i (1 : Int)]]) (0 : Int)))
 (nonZ
 (stpZ (grD [edS]) (0 : Int) (0 : Int) (topN (varP (D.l [[D.i (1 : Int)]]) (0 : Int)))
 (false, fun (x : Nat) => (0 : Int)))).fst
 (nonZ
 (stpZ (grD [edS]) (0 : Int) (0 : Int) (topN (varP (D.l [[D.i (1 : Int)]]) (0 : Int)))
 (false, fun (x : Nat) => (0 : Int)))).snd
 (↑((0 : Nat)) : Int) ==
 ofLo (3 : Int) (3 : Int) &&
 (itvHi (topN (varP (D.l [[D.i (1 : Int)]]) (0 : Int)))
 (nonZ
 (stpZ (grD [edS]) (0 : Int) (0 : Int) (topN (varP (D.l [[D.i (1 : Int)]]) (0 : Int)))
 (false, fun (x : Nat) => (0 : Int)))).fst
 (nonZ
 (stpZ (grD [edS]) (0 : Int) (0 : Int) (topN (varP (D.l [[D.i (1 : Int)]]) (0 : Int)))
 (false, fun (x : Nat) => (0 : Int)))).snd
 (↑((0 : Nat)) : Int) ==
 ofHi (3 : Int) (3 : Int) &&
 true)) &&
 (-1 : Int) == (-1 : Int) &&
 (↑(stpK (grD [edS]) (0 : Int) (0 : Int) (topN (varP (D.l [[D.i (1 : Int)]]) (0 : Int)))
 (false, fun (x : Nat) => (0 : Int))).len :
 Int) ==
 (0 : Int)) =
 true ∧
 True →
 (D.l []).len ≤ (1000 : Nat)) ∧
 (!(nonZ
 (stpZ (grD [edS]) (0 : Int) (0 : Int) (topN (varP (D.l [[D.i (1 : Int)]]) (0 : Int)))
 (false, fun (x : Nat) => (0 : Int)))).fst &&
 (↑(itD (topN (varP (D.l [[D.i (1 : Int)]]) (0 : Int))).toNat (topN (varP (D.l [[D.i (1 : Int)]]) (0 : Int)))
 (nonZ
 (stpZ (grD [edS]) (0 : Int) (0 : Int) (topN (varP (D.l [[D.i (1 : Int)]]) (0 : Int)))
 (false, fun (x : Nat) => (0 : Int))))).len :
 Int) ==
 (1 : Int) &&
 (itvLo (topN (varP (D.l [[D.i (1 : Int)]]) (0 : Int)))
 (nonZ
 (stpZ (grD [edS]) (0 : Int) (0 : Int) (topN (varP (D.l [[D.i (1 : Int)]]) (0 : Int)))
 (false, fun (x : Nat) => (0 : Int)))).fst
 (nonZ
 (stpZ (grD [edS]) (0 : Int) (0 : Int) (topN (varP (D.l [[D.i (1 : Int)]]) (0 : Int)))
 (false, fun (x : Nat) => (0 : Int)))).snd
 (↑((0 : Nat)) : Int) ==
 ofLo (3 : Int) (3 : Int) &&
 (itvHi (topN (varP (D.l [[D.i (1 : Int)]]) (0 : Int)))
 (nonZ
 (stpZ (grD [edS]) (0 : Int) (0 : Int) (topN (varP (D.l [[D.i (1 : Int)]]) (0 : Int)))
 (false, fun (x : Nat) => (0 : Int)))).fst
 (nonZ
 (stpZ (grD [edS]) (0 : Int) (0 : Int) (topN (varP (D.l [[D.i (1 : Int)]]) (0 : Int)))
 (false, fun (x : Nat) => (0 : Int)))).snd
 (↑((0 : Nat)) : Int) ==
 ofHi (3 : Int) (3 : Int) &&
 true)) &&
 (-1 : Int) == (-1 : Int) &&
 (↑(stpK (grD [edS]) (0 : Int) (0 : Int) (topN (varP (D.l [[D.i (1 : Int)]]) (0 : Int)))
 (false, fun (x : Nat) => (0 : Int))).len :
 Int) ==
 (0 : Int) &&
 true) =
 true) (by kernel_rfl) ?_
    obtain ⟨s3, k3⟩ := three
    have hv : topN (varP (D.l [[D.i 1]]) 0) = 1 := by kernel_rfl
    rw [hv]
    refine ⟨⟨Nat.le_refl _, true, ?_⟩, fun _ _ => ?_⟩
    · (repeat' apply And.intro) <;> first | trivial | exact Nat.le_refl _ | rfl
    have l3 := sg_lohi s3 (v := ((0 : Nat) : Int)) (by decide)
    have g3 : gI (upd (fun _ => 0) 0 3) ((0 : Nat) : Int) = 3 := rfl
    have e3 : ofLo 3 3 = 3 ∧ ofHi 3 3 = 3 := of_cc (by omega)
    have f3 := s3.2.1.1
    have n3 := numOK_of (z := (false, fun _ => 0)) (zero_sg (n := 1) (by omega)).1
    rw [nonZ_sg s3, k3, l3.1, l3.2, g3, e3.1, e3.2, f3, itD_len]
    exact ⟨Nat.zero_le _, n3, rfl, by decide, rfl, rfl, rfl, rfl, Nat.zero_le _, .inr (.inl rfl), Nat.zero_le _, fun _ => by decide, fun _ => Nat.zero_le _, rfl⟩
  · trivial
end Go.Proofs.YtlgmofjjjhbgkaaGreat.Sx.Z
namespace Go.Proofs.YtlgmofjjjhbgkaaGreat.Sx.Z
open Go.RowKit
def two (a b : Int) (j : Nat) : Int := if j = 0 then a else b
end Go.Proofs.YtlgmofjjjhbgkaaGreat.Sx.Z
namespace Go.Proofs.YtlgmofjjjhbgkaaGreat.Sx.Z
open Go.RowKit
def usK (a : Int) : Int := IntKind.i64.wrap ((IntKind.u64.wrap a).tmod 3)
def usS (b : Int) : Int := IntKind.i64.wrap (1 + IntKind.i64.wrap ((IntKind.u64.wrap b).tmod 16))
def usN (c : Int) : Int := IntKind.i64.wrap ((IntKind.u64.wrap c).tmod 20)
def usE (k e n : Int) : List D := [D.i 0, D.i 1, D.i k, D.i 0, D.i 0, D.i 0, D.i e, D.i n, D.i 0, D.l [], D.i 0, D.i 0, D.i 0, D.i 0, D.l [], D.i 0, D.i 0, D.i 0, D.l []]
def usGr : D := .l [[.i 2, .l [usE 3 1 5], .l []], [.i 2, .l [usE 0 0 0], .l []]]
def usCh (k s : Int) : D := .l [[.i k, .i s, .i 0, .i 1, .i 1, .l []]]
def usEl : D := .l [[.i 0, .i 0, prD 1 (fun _ => (1, 0))]]
theorem us_mod (a : Int) {n : Int} (hn : 0 < n ∧ n ≤ 100) : 0 ≤ IntKind.i64.wrap ((IntKind.u64.wrap a).tmod n) ∧ IntKind.i64.wrap ((IntKind.u64.wrap a).tmod n) < n := by
  have h1 : 0 ≤ IntKind.u64.wrap a := by rw [IntKind.wrap_u64]; omega
  have h2 := Int.tmod_nonneg n h1
  have h3 := Int.tmod_lt_of_pos (IntKind.u64.wrap a) hn.1
  rw [IntWalk.i64_in _ (by omega)]
  omega
theorem usK_in (a : Int) : usK a = 0 ∨ usK a = 1 ∨ usK a = 2 := by
  have := us_mod a (n := 3) (by omega)
  unfold usK
  omega
theorem usS_in (a : Int) : 1 ≤ usS a ∧ usS a ≤ 16 := by
  have := us_mod a (n := 16) (by omega)
  unfold usS
  rw [IntWalk.i64_in _ (by omega)]
  omega
theorem usN_in (a : Int) : 0 ≤ usN a ∧ usN a ≤ 19 := by
  have := us_mod a (n := 20) (by omega)
  unfold usN
  omega
theorem us_deaf : deafB usGr 0 = true := by rfl
theorem us_ev : evaP (Int.toNat 0) 0 (false, fun _ => 0) (edX usGr 0 0 6) = ((5, 5), (false, false)) := by
  show evaP 0 0 (false, fun _ => 0) (ex 1 5 0 (.l [])) = _
  unfold evaP
  rw [if_neg (by decide), rec_eq, if_pos rfl]
  rfl
theorem us_num : NumOK 0 false (itD 0 0 (false, fun _ => 0)) false (fun _ => 0) := numOK_of (z := (false, fun _ => 0)) (good_none (by omega) false)
def usC (i s : Int) : D := .l [[.i (mnI i (s + 1)), .i (mnI i (s + 1))]]
noncomputable def usendsS : FSpec := fun ds _ => match ds with
  | [.i _a, .i _b, .i _d] => some { val := .one (.sc (.bool (.sym (true)))), vc := [] }
  | _ => none
noncomputable def usendsC : Con := con [iA, iA, iA] usendsS
theorem usends_ok : ConOK Tryz.prog 4 usendsC := by
  refine fn_ob tt_ok mixed Tryz.func4 rfl (fun _ _ => by kernel_rfl) (A := fun ds => ⟨fun _ => Cons.of [(14, qnoneC), (15, deafC), (7, tstartC), (9, ustepC), (11, temptyC), (16, iconstC), (13, tstepsC)], fun k => match k, ds with | 7, [.i a, .i b, .i d] => some { ι := Nat, pre := fun _ i => (i : Int) ≤ usN d ∧ (usK a ≠ 2 → (i : Int) ≤ usS b), μ := fun i => 21 - i, st := fun s i => famR s [(12, .one (.sc (.int .i64 (.sym ((i : Nat))))))] [7, 8, 10, 11] [(idOf s 11, .own 49 ([.c (.bool (.sym ((false, fun _ => 0) : Zs).1)), .c (.rows 53 (itD (0) (0) ((false, fun _ => 0)))), .c (.int .i64 (.sym (0))), .c (.bool (.sym ((false, fun _ => 0) : Zs).1)), .ints .i64 (.lit 49) ((false, fun _ => 0) : Zs).2, .c (.rows 53 (usC (i : Nat) (usS b))), .c (.rows 93 (.l [[.i 1]]))]))] [7, 10] } | _, _ => none, fun k => match k, ds with | 3, [.i a, .i b, .i d] => some { ι := Bool, pre := fun _ _ => True, μ := fun _ => 0, st := fun s _ => famR s [(8, .one (.sc (.int .i64 (.sym (usN d)))))] [7] [(idOf s 7, .own 73 ([.c (.int .i64 (.sym (usK a))), .c (.int .i64 (.sym (usS b))), .c (.int .i64 (.sym (0))), .c (.int .i64 (.sym (1))), .c (.int .i64 (.sym (1))), .c .nils]))] [] } | 4, [.i a, .i b, .i d] => some { ι := Bool, pre := fun _ _ => True, μ := fun _ => 0, st := fun s _ => famR s [(9, .one (.sc (.ptr (s.nx - 1) (.lit 0))))] [7, 8] [(s.nx - 1, .own 39 ([.c (.rows 73 (usCh (usK a) (usS b))), .c (.rows 35 (usGr)), .c (.rows 3 (.l [[.i 0], [.i 0]]))])), (s.nx + 8, .gone), (s.nx + 72, .gone), (s.nx + 80, .gone)] [7] } | 5, [.i a, .i b, .i d] => some { ι := Bool, pre := fun _ _ => True, μ := fun _ => 0, st := fun s _ => famR s [(10, .one (.sc (.ptr (s.nx - 2) (.lit 0))))] [7, 8, 9] [(s.nx - 2, .own 61 ([.c (.rows 73 (usCh (usK a) (usS b))), .c (.rows 35 (usGr)), .c (.rows 3 (.l [[.i 0], [.i 0]])), .c (.rows 75 (usEl)), .c (.rows 4 (deafD usGr 1))])), (s.nx + 24, .gone)] [7, 9] } | 6, [.i a, .i b, .i d] => some { ι := Bool, pre := fun _ _ => True, μ := fun _ => 0, st := fun s _ => famR s [(11, .one (.sc (.ptr (s.nx - 3) (.lit 0))))] [7, 8, 9, 10] [(s.nx - 3, .own 49 ([.c (.bool (.sym ((false, fun _ => 0) : Zs).1)), .c (.rows 53 (itD (0) (0) ((false, fun _ => 0)))), .c (.int .i64 (.sym (0))), .c (.bool (.sym ((false, fun _ => 0) : Zs).1)), .ints .i64 (.lit 49) ((false, fun _ => 0) : Zs).2, .c (.rows 53 (usC 0 (usS b))), .c (.rows 93 (.l [[.i 1]]))]))] [7, 9, 10] } | _, _ => none⟩) (fun _ _ => (cons_cons qnone_ok (cons_cons deaf_ok (cons_cons tstart_ok (cons_cons ustep_ok (cons_cons tempty_ok (cons_cons iconst_ok (cons_cons tsteps_ok cons_nil)))))))) (by kernel_rfl) ?_
  intro ds fr
  unfold usendsS
  split
  · rename_i a b d
    refine kmp (q := (∃ (i : Bool), True ∧ IntKind.i64.wrap ((IntKind.u64.wrap d).tmod (20 : Int)) = usN d ∧ IntKind.i64.wrap ((IntKind.u64.wrap a).tmod (3 : Int)) = usK a ∧ IntKind.i64.wrap ((1 : Int) + IntKind.i64.wrap ((IntKind.u64.wrap b).tmod (16 : Int))) = usS b ∧ (0 : Int) = (0 : Int) ∧ (1 : Int) = (1 : Int) ∧ (1 : Int) = (1 : Int)) ∧ ∀ (i : Bool), True → (0 + 1 ≤ (D.l [[D.i (0 : Int), D.i (1 : Int), D.i (3 : Int), D.i (0 : Int), D.i (0 : Int), D.i (0 : Int), D.i (1 : Int), D.i (5 : Int), D.i (0 : Int), D.l [], D.i (0 : Int), D.i (0 : Int), D.i (0 : Int), D.i (0 : Int), D.l [], D.i (0 : Int), D.i (0 : Int), D.i (0 : Int), D.l []]]).len ∧ 0 + 1 ≤ (D.l [[D.i (0 : Int), D.i (1 : Int), D.i (0 : Int), D.i (0 : Int), D.i (0 : Int), D.i (0 : Int), D.i (0 : Int), D.i (0 : Int), D.i (0 : Int), D.l [], D.i (0 : Int), D.i (0 : Int), D.i (0 : Int), D.i (0 : Int), D.l [], D.i (0 : Int), D.i (0 : Int), D.i (0 : Int), D.l []]]).len ∧ ∃ (i : Bool), True ∧ 0 + 1 ≤ (D.l [[D.i (usK a), D.i (usS b), D.i (0 : Int), D.i (1 : Int), D.i (1 : Int), D.l []]]).len ∧ 0 + 2 ≤ (D.l [[D.i (2 : Int), (D.l [[D.i (0 : Int), D.i (1 : Int), D.i (3 : Int), D.i (0 : Int), D.i (0 : Int), D.i (0 : Int), D.i (1 : Int), D.i (5 : Int), D.i (0 : Int), D.l [], D.i (0 : Int), D.i (0 : Int), D.i (0 : Int), D.i (0 : Int), D.l [], D.i (0 : Int), D.i (0 : Int), D.i (0 : Int), D.l []]]).sub 0 (0 + 1), D.l []], [D.i (2 : Int), (D.l [[D.i (0 : Int), D.i (1 : Int), D.i (0 : Int), D.i (0 : Int), D.i (0 : Int), D.i (0 : Int), D.i (0 : Int), D.i (0 : Int), D.i (0 : Int), D.l [], D.i (0 : Int), D.i (0 : Int), D.i (0 : Int), D.i (0 : Int), D.l [], D.i (0 : Int), D.i (0 : Int), D.i (0 : Int), D.l []]]).sub 0 (0 + 1), D.l []]]).len ∧ 0 + 2 ≤ (D.l [[D.i (0 : Int)], [D.i (0 : Int)]]).len ∧ 0 + 2 ≤ (D.l [[D.i (0 : Int)], [D.i (0 : Int)]]).len ∧ 0 + 2 ≤ (D.l [[D.i (2 : Int), (D.l [[D.i (0 : Int), D.i (1 : Int), D.i (3 : Int), D.i (0 : Int), D.i (0 : Int), D.i (0 : Int), D.i (1 : Int), D.i (5 : Int), D.i (0 : Int), D.l [], D.i (0 : Int), D.i (0 : Int), D.i (0 : Int), D.i (0 : Int), D.l [], D.i (0 : Int), D.i (0 : Int), D.i (0 : Int), D.l []]]).sub 0 (0 + 1), D.l []], [D.i (2 : Int), (D.l [[D.i (0 : Int), D.i (1 : Int), D.i (0 : Int), D.i (0 : Int), D.i (0 : Int), D.i (0 : Int), D.i (0 : Int), D.i (0 : Int), D.i (0 : Int), D.l [], D.i (0 : Int), D.i (0 : Int), D.i (0 : Int), D.i (0 : Int), D.l [], D.i (0 : Int), D.i (0 : Int), D.i (0 : Int), D.l []]]).sub 0 (0 + 1), D.l []]]).len ∧ 0 + 1 ≤ (D.l [[D.i (usK a), D.i (usS b), D.i (0 : Int), D.i (1 : Int), D.i (1 : Int), D.l []]]).len ∧ 0 + 1 ≤ (D.l [[D.i (usK a), D.i (usS b), D.i (0 : Int), D.i (1 : Int), D.i (1 : Int), D.l []]]).len ∧ 0 + 2 ≤ (D.l [[D.i (2 : Int), (D.l [[D.i (0 : Int), D.i (1 : Int), D.i (3 : Int), D.i (0 : Int), D.i (0 : Int), D.i (0 : Int), D.i (1 : Int), D.i (5 : Int), D.i (0 : Int), D.l [], D.i (0 : Int), D.i (0 : Int), D.i (0 : Int), D.i (0 : Int), D.l [], D.i (0 : Int), D.i (0 : Int), D.i (0 : Int), D.l []]]).sub 0 (0 + 1), D.l []], [D.i (2 : Int), (D.l [[D.i (0 : Int), D.i (1 : Int), D.i (0 : Int), D.i (0 : Int), D.i (0 : Int), D.i (0 : Int), D.i (0 : Int), D.i (0 : Int), D.i (0 : Int), D.l [], D.i (0 : Int), D.i (0 : Int), D.i (0 : Int), D.i (0 : Int), D.l [], D.i (0 : Int), D.i (0 : Int), D.i (0 : Int), D.l []]]).sub 0 (0 + 1), D.l []]]).len ∧ 0 + 2 ≤ (D.l [[D.i (0 : Int)], [D.i (0 : Int)]]).len ∧ usN d = usN d ∧ List.drop (0) (List.take (0 + 1) [[D.i (usK a), D.i (usS b), D.i (0 : Int), D.i (1 : Int), D.i (1 : Int), D.l []]]) = [[D.i (usK a), D.i (usS b), D.i (0 : Int), D.i (1 : Int), D.i (1 : Int), D.l []]] ∧ List.drop (0) (List.take (0 + 2) [[D.i (2 : Int), (D.l [[D.i (0 : Int), D.i (1 : Int), D.i (3 : Int), D.i (0 : Int), D.i (0 : Int), D.i (0 : Int), D.i (1 : Int), D.i (5 : Int), D.i (0 : Int), D.l [], D.i (0 : Int), D.i (0 : Int), D.i (0 : Int), D.i (0 : Int), D.l [], D.i (0 : Int), D.i (0 : Int), D.i (0 : Int), D.l []]]).sub 0 (0 + 1), D.l []], [D.i (2 : Int), (D.l [[D.i (0 : Int), D.i (1 : Int), D.i (0 : Int), D.i (0 : Int), D.i (0 : Int), D.i (0 : Int), D.i (0 : Int), D.i (0 : Int), D.i (0 : Int), D.l [], D.i (0 : Int), D.i (0 : Int), D.i (0 : Int), D.i (0 : Int), D.l [], D.i (0 : Int), D.i (0 : Int), D.i (0 : Int), D.l []]]).sub 0 (0 + 1), D.l []]]) = [[D.i (2 : Int), D.l [usE (3 : Int) (1 : Int) (5 : Int)], D.l []], [D.i (2 : Int), D.l [usE (0 : Int) (0 : Int) (0 : Int)], D.l []]] ∧ List.drop (0) (List.take (0 + 2) [[D.i (0 : Int)], [D.i (0 : Int)]]) = [[D.i (0 : Int)], [D.i (0 : Int)]] ∧ usK a = usK a ∧ usS b = usS b ∧ (0 : Int) = (0 : Int) ∧ (1 : Int) = (1 : Int) ∧ (1 : Int) = (1 : Int)) ∧ ∀ (i : Bool), True → (((1 : Int) ≤ (1 : Int) ∧ (1 : Int) ≤ (4 : Int)) ∧ (usCh (usK a) (usS b)).len ≤ 1000 ∧ usGr.len ≤ 1000000 ∧ (∀ (g : Nat), g < usGr.len → (usGr.el g 1).len ≤ 1000000) ∧ ∃ (i : Bool), True ∧ 0 + 1 ≤ (D.l [[D.i (0 : Int), D.i (0 : Int), prD (Int.toNat (1 : Int)) fun (x : Nat) => ((1 : Int), (0 : Int))]]).len ∧ 0 + 1 ≤ (D.l [[D.i (0 : Int), D.i (0 : Int), prD (Int.toNat (1 : Int)) fun (x : Nat) => ((1 : Int), (0 : Int))]]).len ∧ 0 + 1 ≤ (D.l [[D.i (0 : Int), D.i (0 : Int), prD (Int.toNat (1 : Int)) fun (x : Nat) => ((1 : Int), (0 : Int))]]).len ∧ usN d = usN d ∧ [[D.i (usK a), D.i (usS b), D.i (0 : Int), D.i (1 : Int), D.i (1 : Int), D.l []]] = [[D.i (usK a), D.i (usS b), D.i (0 : Int), D.i (1 : Int), D.i (1 : Int), D.l []]] ∧ [[D.i (2 : Int), D.l [usE (3 : Int) (1 : Int) (5 : Int)], D.l []], [D.i (2 : Int), D.l [usE (0 : Int) (0 : Int) (0 : Int)], D.l []]] = [[D.i (2 : Int), D.l [usE (3 : Int) (1 : Int) (5 : Int)], D.l []], [D.i (2 : Int), D.l [usE (0 : Int) (0 : Int) (0 : Int)], D.l []]] ∧ [[D.i (0 : Int)], [D.i (0 : Int)]] = [[D.i (0 : Int)], [D.i (0 : Int)]] ∧ List.drop (0) (List.take (0 + 1) [[D.i (0 : Int), D.i (0 : Int), prD (Int.toNat (1 : Int)) fun (x : Nat) => ((1 : Int), (0 : Int))]]) = [[D.i (0 : Int), D.i (0 : Int), prD 1 fun (x : Nat) => ((1 : Int), (0 : Int))]] ∧ List.map (fun (i : Nat) => [D.b (deafB usGr i)]) (List.range (usCh (usK a) (usS b)).len) = List.map (fun (i : Nat) => [D.b (deafB usGr i)]) (List.range 1) ∧ usK a = usK a ∧ usS b = usS b ∧ (0 : Int) = (0 : Int) ∧ (1 : Int) = (1 : Int) ∧ (1 : Int) = (1 : Int) ∧ [[D.i (usK a), D.i (usS b), D.i (0 : Int), D.i (1 : Int), D.i (1 : Int), D.l []]] = [[D.i (usK a), D.i (usS b), D.i (0 : Int), D.i (1 : Int), D.i (1 : Int), D.l []]] ∧ [[D.i (2 : Int), D.l [usE (3 : Int) (1 : Int) (5 : Int)], D.l []], [D.i (2 : Int), D.l [usE (0 : Int) (0 : Int) (0 : Int)], D.l []]] = [[D.i (2 : Int), D.l [usE (3 : Int) (1 : Int) (5 : Int)], D.l []], [D.i (2 : Int), D.l [usE (0 : Int) (0 : Int) (0 : Int)], D.l []]] ∧ [[D.i (0 : Int)], [D.i (0 : Int)]] = [[D.i (0 : Int)], [D.i (0 : Int)]]) ∧ ∀ (i : Bool), True → ((usCh (usK a) (usS b)).len ≤ 1000 ∧ ∃ (i : Bool), True ∧ usN d = usN d ∧ false = false ∧ List.map (fun (j : Nat) => [D.i (itvLo (topN (varP (D.l [[D.i (0 : Int)], [D.i (0 : Int)]]) (0 : Int))) false (fun (x : Nat) => (0 : Int)) (↑j : Int)), D.i (itvHi (topN (varP (D.l [[D.i (0 : Int)], [D.i (0 : Int)]]) (0 : Int))) false (fun (x : Nat) => (0 : Int)) (↑j : Int))]) (List.range (topN (varP (D.l [[D.i (0 : Int)], [D.i (0 : Int)]]) (0 : Int))).toNat) = List.map (fun (j : Nat) => [D.i (itvLo (0 : Int) false (fun (x : Nat) => (0 : Int)) (↑j : Int)), D.i (itvHi (0 : Int) false (fun (x : Nat) => (0 : Int)) (↑j : Int))]) (List.range 0) ∧ topN (varP (D.l [[D.i (0 : Int)], [D.i (0 : Int)]]) (0 : Int)) = (0 : Int) ∧ false = false ∧ (∀ (o : Nat), o < 49 → (0 : Int) = (0 : Int)) ∧ List.replicate (usCh (usK a) (usS b)).len [D.i (0 : Int), D.i (0 : Int)] = [[D.i (mnI (0 : Int) (usS b + (1 : Int))), D.i (mnI (0 : Int) (usS b + (1 : Int)))]] ∧ List.replicate (usCh (usK a) (usS b)).len [D.i (1 : Int)] = [[D.i (1 : Int)]] ∧ usK a = usK a ∧ usS b = usS b ∧ (0 : Int) = (0 : Int) ∧ (1 : Int) = (1 : Int) ∧ (1 : Int) = (1 : Int) ∧ [[D.i (usK a), D.i (usS b), D.i (0 : Int), D.i (1 : Int), D.i (1 : Int), D.l []]] = [[D.i (usK a), D.i (usS b), D.i (0 : Int), D.i (1 : Int), D.i (1 : Int), D.l []]] ∧ [[D.i (2 : Int), D.l [usE (3 : Int) (1 : Int) (5 : Int)], D.l []], [D.i (2 : Int), D.l [usE (0 : Int) (0 : Int) (0 : Int)], D.l []]] = [[D.i (2 : Int), D.l [usE (3 : Int) (1 : Int) (5 : Int)], D.l []], [D.i (2 : Int), D.l [usE (0 : Int) (0 : Int) (0 : Int)], D.l []]] ∧ [[D.i (0 : Int)], [D.i (0 : Int)]] = [[D.i (0 : Int)], [D.i (0 : Int)]] ∧ [[D.i (usK a), D.i (usS b), D.i (0 : Int), D.i (1 : Int), D.i (1 : Int), D.l []]] = [[D.i (usK a), D.i (usS b), D.i (0 : Int), D.i (1 : Int), D.i (1 : Int), D.l []]] ∧ [[D.i (2 : Int), D.l [usE (3 : Int) (1 : Int) (5 : Int)], D.l []], [D.i (2 : Int), D.l [usE (0 : Int) (0 : Int) (0 : Int)], D.l []]] = [[D.i (2 : Int), D.l [usE (3 : Int) (1 : Int) (5 : Int)], D.l []], [D.i (2 : Int), D.l [usE (0 : Int) (0 : Int) (0 : Int)], D.l []]] ∧ [[D.i (0 : Int)], [D.i (0 : Int)]] = [[D.i (0 : Int)], [D.i (0 : Int)]] ∧ [[D.i (0 : Int), D.i (0 : Int), prD 1 fun (x : Nat) => ((1 : Int), (0 : Int))]] = [[D.i (0 : Int), D.i (0 : Int), prD 1 fun (x : Nat) => ((1 : Int), (0 : Int))]] ∧ List.map (fun (i : Nat) => [D.b (deafB usGr i)]) (List.range 1) = List.map (fun (i : Nat) => [D.b (deafB usGr i)]) (List.range 1)) ∧ ∀ (i : Bool), True → (∃ (i : Nat), ((↑i : Int) ≤ usN d ∧ (usK a ≠ (2 : Int) → (↑i : Int) ≤ usS b)) ∧ (0 : Int) = (↑i : Int) ∧ usN d = usN d ∧ false = false ∧ List.map (fun (j : Nat) => [D.i (itvLo (0 : Int) false (fun (x : Nat) => (0 : Int)) (↑j : Int)), D.i (itvHi (0 : Int) false (fun (x : Nat) => (0 : Int)) (↑j : Int))]) (List.range 0) = List.map (fun (j : Nat) => [D.i (itvLo (0 : Int) false (fun (x : Nat) => (0 : Int)) (↑j : Int)), D.i (itvHi (0 : Int) false (fun (x : Nat) => (0 : Int)) (↑j : Int))]) (List.range 0) ∧ (0 : Int) = (0 : Int) ∧ false = false ∧ (∀ (o : Nat), o < 49 → (0 : Int) = (0 : Int)) ∧ [[D.i (mnI (0 : Int) (usS b + (1 : Int))), D.i (mnI (0 : Int) (usS b + (1 : Int)))]] = [[D.i (mnI (↑i : Int) (usS b + (1 : Int))), D.i (mnI (↑i : Int) (usS b + (1 : Int)))]] ∧ [[D.i (1 : Int)]] = [[D.i (1 : Int)]] ∧ usK a = usK a ∧ usS b = usS b ∧ (0 : Int) = (0 : Int) ∧ (1 : Int) = (1 : Int) ∧ (1 : Int) = (1 : Int) ∧ [[D.i (usK a), D.i (usS b), D.i (0 : Int), D.i (1 : Int), D.i (1 : Int), D.l []]] = [[D.i (usK a), D.i (usS b), D.i (0 : Int), D.i (1 : Int), D.i (1 : Int), D.l []]] ∧ [[D.i (2 : Int), D.l [usE (3 : Int) (1 : Int) (5 : Int)], D.l []], [D.i (2 : Int), D.l [usE (0 : Int) (0 : Int) (0 : Int)], D.l []]] = [[D.i (2 : Int), D.l [usE (3 : Int) (1 : Int) (5 : Int)], D.l []], [D.i (2 : Int), D.l [usE (0 : Int) (0 : Int) (0 : Int)], D.l []]] ∧ [[D.i (0 : Int)], [D.i (0 : Int)]] = [[D.i (0 : Int)], [D.i (0 : Int)]] ∧ [[D.i (0 : Int), D.i (0 : Int), prD 1 fun (x : Nat) => ((1 : Int), (0 : Int))]] = [[D.i (0 : Int), D.i (0 : Int), prD 1 fun (x : Nat) => ((1 : Int), (0 : Int))]] ∧ List.map (fun (i : Nat) => [D.b (deafB usGr i)]) (List.range 1) = List.map (fun (i : Nat) => [D.b (deafB usGr i)]) (List.range 1)) ∧ ∀ (i : Nat), (↑i : Int) ≤ usN d ∧ (usK a ≠ (2 : Int) → (↑i : Int) ≤ usS b) → (decide ((↑i : Int) < usN d) = true → (NumOK (0 : Int) false (itD 0 (0 : Int) (false, fun (x : Nat) => (0 : Int))) false fun (x : Nat) => (0 : Int)) ∧ ((0 : Int) ≤ (0 : Int) ∧ (0 : Int) < (↑(usCh (usK a) (usS b)).len : Int)) ∧ (0 : Int) < (↑(usC (↑i : Int) (usS b)).len : Int) ∧ (0 : Int) < (↑(D.l [[D.i (1 : Int)]]).len : Int) ∧ (0 : Int) < (↑(deafD usGr 1).len : Int) ∧ ((1 : Int) ≤ usS b ∧ usS b ≤ (16 : Int)) ∧ ((0 : Int) ≤ mnI (↑i : Int) (usS b + (1 : Int)) ∧ mnI (↑i : Int) (usS b + (1 : Int)) ≤ (17 : Int)) ∧ mnI (↑i : Int) (usS b + (1 : Int)) = mnI (↑i : Int) (usS b + (1 : Int)) ∧ ((usCh (usK a) (usS b)).el (Int.toNat (0 : Int)) 5).len = 0 ∧ (evaP (Int.toNat (0 : Int)) (0 : Int) (false, fun (x : Nat) => (0 : Int)) (edX usGr (0 : Int) (0 : Int) 6)).fst.fst ≤ (evaP (Int.toNat (0 : Int)) (0 : Int) (false, fun (x : Nat) => (0 : Int)) (edX usGr (0 : Int) (0 : Int) 6)).fst.snd ∧ (evaP (Int.toNat (0 : Int)) (0 : Int) (false, fun (x : Nat) => (0 : Int)) (edX usGr (0 : Int) (0 : Int) 6)).snd = (false, false) ∧ false = false ∧ topN (varP (D.l [[D.i (0 : Int)], [D.i (0 : Int)]]) (0 : Int)) = (0 : Int) ∧ edgeB (usCh (usK a) (usS b)) usGr (0 : Int) (0 : Int) = true ∧ (usC (↑i : Int) (usS b)).len = (usCh (usK a) (usS b)).len ∧ (D.l [[D.i (1 : Int)]]).len = (usCh (usK a) (usS b)).len ∧ (usCh (usK a) (usS b)).len ≤ 1000 ∧ (3 : Int) = (3 : Int) ∧ ((decide ((↑i : Int) ≥ usS b) && usK a == (0 : Int)) = true → ((!(usZ (usB (usK a) (deafB usGr (0)) (usS b) (mnI (↑i : Int) (usS b + (1 : Int)))) (false, fun (x : Nat) => (0 : Int))).fst || (↑(kD (D.l []) (4 : Int) (usK a == (1 : Int) && decide (usS b ≤ mnI (↑i : Int) (usS b + (1 : Int))))).len : Int) != (0 : Int) || (if usB (usK a) (deafB usGr (0)) (usS b) (mnI (↑i : Int) (usS b + (1 : Int))) = true then (0 : Int) else (-1 : Int)) != (-1 : Int)) = true → false = true) ∧ ((!(usZ (usB (usK a) (deafB usGr (0)) (usS b) (mnI (↑i : Int) (usS b + (1 : Int)))) (false, fun (x : Nat) => (0 : Int))).fst || (↑(kD (D.l []) (4 : Int) (usK a == (1 : Int) && decide (usS b ≤ mnI (↑i : Int) (usS b + (1 : Int))))).len : Int) != (0 : Int) || (if usB (usK a) (deafB usGr (0)) (usS b) (mnI (↑i : Int) (usS b + (1 : Int))) = true then (0 : Int) else (-1 : Int)) != (-1 : Int)) = false → ((usZ (usB (usK a) (deafB usGr (0)) (usS b) (mnI (↑i : Int) (usS b + (1 : Int)))) (false, fun (x : Nat) => (0 : Int))).fst = true → (true = true ∧ True → 0 < (deafD usGr 1).len) ∧ (true && deafB usGr (0)) = true) ∧ ((usZ (usB (usK a) (deafB usGr (0)) (usS b) (mnI (↑i : Int) (usS b + (1 : Int)))) (false, fun (x : Nat) => (0 : Int))).fst = false → ∃ (j : Nat), ((↑j : Int) ≤ usN d ∧ (usK a ≠ (2 : Int) → (↑j : Int) ≤ usS b)) ∧ 21 - j < 21 - i ∧ IntKind.i64.wrap ((↑i : Int) + (1 : Int)) = (↑j : Int) ∧ usN d = usN d ∧ (usZ (usB (usK a) (deafB usGr (0)) (usS b) (mnI (↑i : Int) (usS b + (1 : Int)))) (false, fun (x : Nat) => (0 : Int))).fst = false ∧ List.map (fun (j : Nat) => [D.i (itvLo (0 : Int) (usZ (usB (usK a) (deafB usGr (0)) (usS b) (mnI (↑i : Int) (usS b + (1 : Int)))) (false, fun (x : Nat) => (0 : Int))).fst (usZ (usB (usK a) (deafB usGr (0)) (usS b) (mnI (↑i : Int) (usS b + (1 : Int)))) (false, fun (x : Nat) => (0 : Int))).snd (↑j : Int)), D.i (itvHi (0 : Int) (usZ (usB (usK a) (deafB usGr (0)) (usS b) (mnI (↑i : Int) (usS b + (1 : Int)))) (false, fun (x : Nat) => (0 : Int))).fst (usZ (usB (usK a) (deafB usGr (0)) (usS b) (mnI (↑i : Int) (usS b + (1 : Int)))) (false, fun (x : Nat) => (0 : Int))).snd (↑j : Int))]) (List.range (Int.toNat (0 : Int))) = List.map (fun (j : Nat) => [D.i (itvLo (0 : Int) false (fun (x : Nat) => (0 : Int)) (↑j : Int)), D.i (itvHi (0 : Int) false (fun (x : Nat) => (0 : Int)) (↑j : Int))]) (List.range 0) ∧ (0 : Int) = (0 : Int) ∧ (usZ (usB (usK a) (deafB usGr (0)) (usS b) (mnI (↑i : Int) (usS b + (1 : Int)))) (false, fun (x : Nat) => (0 : Int))).fst = false ∧ (∀ (o : Nat), o < 49 → (usZ (usB (usK a) (deafB usGr (0)) (usS b) (mnI (↑i : Int) (usS b + (1 : Int)))) (false, fun (x : Nat) => (0 : Int))).snd o = (0 : Int)) ∧ (if usB (usK a) (deafB usGr (0)) (usS b) (mnI (↑i : Int) (usS b + (1 : Int))) = true then usD (usB (usK a) (deafB usGr (0)) (usS b) (mnI (↑i : Int) (usS b + (1 : Int)))) (usC (↑i : Int) (usS b)) (Int.toNat (0 : Int)) [D.i (mnI (mnI (↑i : Int) (usS b + (1 : Int))) (usS b) + (1 : Int)), D.i (mnI (mnI (↑i : Int) (usS b + (1 : Int))) (usS b) + (1 : Int))] else repD (usCh (usK a) (usS b)).len [D.i (1 : Int), D.i (0 : Int)]).rows = [[D.i (mnI (↑j : Int) (usS b + (1 : Int))), D.i (mnI (↑j : Int) (usS b + (1 : Int)))]] ∧ (if usB (usK a) (deafB usGr (0)) (usS b) (mnI (↑i : Int) (usS b + (1 : Int))) = true then usD (usB (usK a) (deafB usGr (0)) (usS b) (mnI (↑i : Int) (usS b + (1 : Int)))) (D.l [[D.i (1 : Int)]]) (Int.toNat (0 : Int)) [D.i (1 : Int)] else repD (usCh (usK a) (usS b)).len [D.i (0 : Int)]).rows = [[D.i (1 : Int)]] ∧ usK a = usK a ∧ usS b = usS b ∧ (0 : Int) = (0 : Int) ∧ (1 : Int) = (1 : Int) ∧ (1 : Int) = (1 : Int) ∧ [[D.i (usK a), D.i (usS b), D.i (0 : Int), D.i (1 : Int), D.i (1 : Int), D.l []]] = [[D.i (usK a), D.i (usS b), D.i (0 : Int), D.i (1 : Int), D.i (1 : Int), D.l []]] ∧ [[D.i (2 : Int), D.l [usE (3 : Int) (1 : Int) (5 : Int)], D.l []], [D.i (2 : Int), D.l [usE (0 : Int) (0 : Int) (0 : Int)], D.l []]] = [[D.i (2 : Int), D.l [usE (3 : Int) (1 : Int) (5 : Int)], D.l []], [D.i (2 : Int), D.l [usE (0 : Int) (0 : Int) (0 : Int)], D.l []]] ∧ [[D.i (0 : Int)], [D.i (0 : Int)]] = [[D.i (0 : Int)], [D.i (0 : Int)]] ∧ [[D.i (0 : Int), D.i (0 : Int), prD 1 fun (x : Nat) => ((1 : Int), (0 : Int))]] = [[D.i (0 : Int), D.i (0 : Int), prD 1 fun (x : Nat) => ((1 : Int), (0 : Int))]] ∧ List.map (fun (i : Nat) => [D.b (deafB usGr i)]) (List.range 1) = List.map (fun (i : Nat) => [D.b (deafB usGr i)]) (List.range 1)))) ∧ ((decide ((↑i : Int) ≥ usS b) && usK a == (0 : Int)) = false → ((decide ((↑i : Int) ≥ usS b) && usK a == (1 : Int)) = true → ((!(usZ (usB (usK a) (deafB usGr (0)) (usS b) (mnI (↑i : Int) (usS b + (1 : Int)))) (false, fun (x : Nat) => (0 : Int))).fst || (↑(kD (D.l []) (4 : Int) (usK a == (1 : Int) && decide (usS b ≤ mnI (↑i : Int) (usS b + (1 : Int))))).len : Int) != (1 : Int)) = false ∧ True → 0 < (kD (D.l []) (4 : Int) (usK a == (1 : Int) && decide (usS b ≤ mnI (↑i : Int) (usS b + (1 : Int))))).len) ∧ ((!(usZ (usB (usK a) (deafB usGr (0)) (usS b) (mnI (↑i : Int) (usS b + (1 : Int)))) (false, fun (x : Nat) => (0 : Int))).fst || (↑(kD (D.l []) (4 : Int) (usK a == (1 : Int) && decide (usS b ≤ mnI (↑i : Int) (usS b + (1 : Int))))).len : Int) != (1 : Int) || ((kD (D.l []) (4 : Int) (usK a == (1 : Int) && decide (usS b ≤ mnI (↑i : Int) (usS b + (1 : Int))))).el (0) 0).toI != (4 : Int) || (if usB (usK a) (deafB usGr (0)) (usS b) (mnI (↑i : Int) (usS b + (1 : Int))) = true then (0 : Int) else (-1 : Int)) != (-1 : Int)) = true → false = true) ∧ ((!(usZ (usB (usK a) (deafB usGr (0)) (usS b) (mnI (↑i : Int) (usS b + (1 : Int)))) (false, fun (x : Nat) => (0 : Int))).fst || (↑(kD (D.l []) (4 : Int) (usK a == (1 : Int) && decide (usS b ≤ mnI (↑i : Int) (usS b + (1 : Int))))).len : Int) != (1 : Int) || ((kD (D.l []) (4 : Int) (usK a == (1 : Int) && decide (usS b ≤ mnI (↑i : Int) (usS b + (1 : Int))))).el (0) 0).toI != (4 : Int) || (if usB (usK a) (deafB usGr (0)) (usS b) (mnI (↑i : Int) (usS b + (1 : Int))) = true then (0 : Int) else (-1 : Int)) != (-1 : Int)) = false → ((usZ (usB (usK a) (deafB usGr (0)) (usS b) (mnI (↑i : Int) (usS b + (1 : Int)))) (false, fun (x : Nat) => (0 : Int))).fst = true → (true = true ∧ True → 0 < (deafD usGr 1).len) ∧ (true && deafB usGr (0)) = true) ∧ ((usZ (usB (usK a) (deafB usGr (0)) (usS b) (mnI (↑i : Int) (usS b + (1 : Int)))) (false, fun (x : Nat) => (0 : Int))).fst = false → ∃ (j : Nat), ((↑j : Int) ≤ usN d ∧ (usK a ≠ (2 : Int) → (↑j : Int) ≤ usS b)) ∧ 21 - j < 21 - i ∧ IntKind.i64.wrap ((↑i : Int) + (1 : Int)) = (↑j : Int) ∧ usN d = usN d ∧ (usZ (usB (usK a) (deafB usGr (0)) (usS b) (mnI (↑i : Int) (usS b + (1 : Int)))) (false, fun (x : Nat) => (0 : Int))).fst = false ∧ List.map (fun (j : Nat) => [D.i (itvLo (0 : Int) (usZ (usB (usK a) (deafB usGr (0)) (usS b) (mnI (↑i : Int) (usS b + (1 : Int)))) (false, fun (x : Nat) => (0 : Int))).fst (usZ (usB (usK a) (deafB usGr (0)) (usS b) (mnI (↑i : Int) (usS b + (1 : Int)))) (false, fun (x : Nat) => (0 : Int))).snd (↑j : Int)), D.i (itvHi (0 : Int) (usZ (usB (usK a) (deafB usGr (0)) (usS b) (mnI (↑i : Int) (usS b + (1 : Int)))) (false, fun (x : Nat) => (0 : Int))).fst (usZ (usB (usK a) (deafB usGr (0)) (usS b) (mnI (↑i : Int) (usS b + (1 : Int)))) (false, fun (x : Nat) => (0 : Int))).snd (↑j : Int))]) (List.range (Int.toNat (0 : Int))) = List.map (fun (j : Nat) => [D.i (itvLo (0 : Int) false (fun (x : Nat) => (0 : Int)) (↑j : Int)), D.i (itvHi (0 : Int) false (fun (x : Nat) => (0 : Int)) (↑j : Int))]) (List.range 0) ∧ (0 : Int) = (0 : Int) ∧ (usZ (usB (usK a) (deafB usGr (0)) (usS b) (mnI (↑i : Int) (usS b + (1 : Int)))) (false, fun (x : Nat) => (0 : Int))).fst = false ∧ (∀ (o : Nat), o < 49 → (usZ (usB (usK a) (deafB usGr (0)) (usS b) (mnI (↑i : Int) (usS b + (1 : Int)))) (false, fun (x : Nat) => (0 : Int))).snd o = (0 : Int)) ∧ (if usB (usK a) (deafB usGr (0)) (usS b) (mnI (↑i : Int) (usS b + (1 : Int))) = true then usD (usB (usK a) (deafB usGr (0)) (usS b) (mnI (↑i : Int) (usS b + (1 : Int)))) (usC (↑i : Int) (usS b)) (Int.toNat (0 : Int)) [D.i (mnI (mnI (↑i : Int) (usS b + (1 : Int))) (usS b) + (1 : Int)), D.i (mnI (mnI (↑i : Int) (usS b + (1 : Int))) (usS b) + (1 : Int))] else repD (usCh (usK a) (usS b)).len [D.i (1 : Int), D.i (0 : Int)]).rows = [[D.i (mnI (↑j : Int) (usS b + (1 : Int))), D.i (mnI (↑j : Int) (usS b + (1 : Int)))]] ∧ (if usB (usK a) (deafB usGr (0)) (usS b) (mnI (↑i : Int) (usS b + (1 : Int))) = true then usD (usB (usK a) (deafB usGr (0)) (usS b) (mnI (↑i : Int) (usS b + (1 : Int)))) (D.l [[D.i (1 : Int)]]) (Int.toNat (0 : Int)) [D.i (1 : Int)] else repD (usCh (usK a) (usS b)).len [D.i (0 : Int)]).rows = [[D.i (1 : Int)]] ∧ usK a = usK a ∧ usS b = usS b ∧ (0 : Int) = (0 : Int) ∧ (1 : Int) = (1 : Int) ∧ (1 : Int) = (1 : Int) ∧ [[D.i (usK a), D.i (usS b), D.i (0 : Int), D.i (1 : Int), D.i (1 : Int), D.l []]] = [[D.i (usK a), D.i (usS b), D.i (0 : Int), D.i (1 : Int), D.i (1 : Int), D.l []]] ∧ [[D.i (2 : Int), D.l [usE (3 : Int) (1 : Int) (5 : Int)], D.l []], [D.i (2 : Int), D.l [usE (0 : Int) (0 : Int) (0 : Int)], D.l []]] = [[D.i (2 : Int), D.l [usE (3 : Int) (1 : Int) (5 : Int)], D.l []], [D.i (2 : Int), D.l [usE (0 : Int) (0 : Int) (0 : Int)], D.l []]] ∧ [[D.i (0 : Int)], [D.i (0 : Int)]] = [[D.i (0 : Int)], [D.i (0 : Int)]] ∧ [[D.i (0 : Int), D.i (0 : Int), prD 1 fun (x : Nat) => ((1 : Int), (0 : Int))]] = [[D.i (0 : Int), D.i (0 : Int), prD 1 fun (x : Nat) => ((1 : Int), (0 : Int))]] ∧ List.map (fun (i : Nat) => [D.b (deafB usGr i)]) (List.range 1) = List.map (fun (i : Nat) => [D.b (deafB usGr i)]) (List.range 1)))) ∧ ((decide ((↑i : Int) ≥ usS b) && usK a == (1 : Int)) = false → (((usZ (usB (usK a) (deafB usGr (0)) (usS b) (mnI (↑i : Int) (usS b + (1 : Int)))) (false, fun (x : Nat) => (0 : Int))).fst || (↑(if usB (usK a) (deafB usGr (0)) (usS b) (mnI (↑i : Int) (usS b + (1 : Int))) = true then usD (usB (usK a) (deafB usGr (0)) (usS b) (mnI (↑i : Int) (usS b + (1 : Int)))) (usC (↑i : Int) (usS b)) (Int.toNat (0 : Int)) [D.i (mnI (mnI (↑i : Int) (usS b + (1 : Int))) (usS b) + (1 : Int)), D.i (mnI (mnI (↑i : Int) (usS b + (1 : Int))) (usS b) + (1 : Int))] else repD (usCh (usK a) (usS b)).len [D.i (1 : Int), D.i (0 : Int)]).len : Int) != (1 : Int) || (↑(kD (D.l []) (4 : Int) (usK a == (1 : Int) && decide (usS b ≤ mnI (↑i : Int) (usS b + (1 : Int))))).len : Int) != (0 : Int) || (if usB (usK a) (deafB usGr (0)) (usS b) (mnI (↑i : Int) (usS b + (1 : Int))) = true then (0 : Int) else (-1 : Int)) != (0 : Int) || !((if usB (usK a) (deafB usGr (0)) (usS b) (mnI (↑i : Int) (usS b + (1 : Int))) = true then (evaP (Int.toNat (0 : Int)) (0 : Int) (false, fun (x : Nat) => (0 : Int)) (edX usGr (0 : Int) (0 : Int) 6)).fst.fst else (1 : Int)) == ofLo (5 : Int) (5 : Int) && ((if usB (usK a) (deafB usGr (0)) (usS b) (mnI (↑i : Int) (usS b + (1 : Int))) = true then (evaP (Int.toNat (0 : Int)) (0 : Int) (false, fun (x : Nat) => (0 : Int)) (edX usGr (0 : Int) (0 : Int) 6)).fst.snd else (0 : Int)) == ofHi (5 : Int) (5 : Int) && true))) = false ∧ True → 0 < (if usB (usK a) (deafB usGr (0)) (usS b) (mnI (↑i : Int) (usS b + (1 : Int))) = true then usD (usB (usK a) (deafB usGr (0)) (usS b) (mnI (↑i : Int) (usS b + (1 : Int)))) (usC (↑i : Int) (usS b)) (Int.toNat (0 : Int)) [D.i (mnI (mnI (↑i : Int) (usS b + (1 : Int))) (usS b) + (1 : Int)), D.i (mnI (mnI (↑i : Int) (usS b + (1 : Int))) (usS b) + (1 : Int))] else repD (usCh (usK a) (usS b)).len [D.i (1 : Int), D.i (0 : Int)]).len) ∧ (((usZ (usB (usK a) (deafB usGr (0)) (usS b) (mnI (↑i : Int) (usS b + (1 : Int)))) (false, fun (x : Nat) => (0 : Int))).fst || (↑(if usB (usK a) (deafB usGr (0)) (usS b) (mnI (↑i : Int) (usS b + (1 : Int))) = true then usD (usB (usK a) (deafB usGr (0)) (usS b) (mnI (↑i : Int) (usS b + (1 : Int)))) (usC (↑i : Int) (usS b)) (Int.toNat (0 : Int)) [D.i (mnI (mnI (↑i : Int) (usS b + (1 : Int))) (usS b) + (1 : Int)), D.i (mnI (mnI (↑i : Int) (usS b + (1 : Int))) (usS b) + (1 : Int))] else repD (usCh (usK a) (usS b)).len [D.i (1 : Int), D.i (0 : Int)]).len : Int) != (1 : Int) || (↑(kD (D.l []) (4 : Int) (usK a == (1 : Int) && decide (usS b ≤ mnI (↑i : Int) (usS b + (1 : Int))))).len : Int) != (0 : Int) || (if usB (usK a) (deafB usGr (0)) (usS b) (mnI (↑i : Int) (usS b + (1 : Int))) = true then (0 : Int) else (-1 : Int)) != (0 : Int) || !((if usB (usK a) (deafB usGr (0)) (usS b) (mnI (↑i : Int) (usS b + (1 : Int))) = true then (evaP (Int.toNat (0 : Int)) (0 : Int) (false, fun (x : Nat) => (0 : Int)) (edX usGr (0 : Int) (0 : Int) 6)).fst.fst else (1 : Int)) == ofLo (5 : Int) (5 : Int) && ((if usB (usK a) (deafB usGr (0)) (usS b) (mnI (↑i : Int) (usS b + (1 : Int))) = true then (evaP (Int.toNat (0 : Int)) (0 : Int) (false, fun (x : Nat) => (0 : Int)) (edX usGr (0 : Int) (0 : Int) 6)).fst.snd else (0 : Int)) == ofHi (5 : Int) (5 : Int) && true)) || !(((if usB (usK a) (deafB usGr (0)) (usS b) (mnI (↑i : Int) (usS b + (1 : Int))) = true then usD (usB (usK a) (deafB usGr (0)) (usS b) (mnI (↑i : Int) (usS b + (1 : Int)))) (usC (↑i : Int) (usS b)) (Int.toNat (0 : Int)) [D.i (mnI (mnI (↑i : Int) (usS b + (1 : Int))) (usS b) + (1 : Int)), D.i (mnI (mnI (↑i : Int) (usS b + (1 : Int))) (usS b) + (1 : Int))] else repD (usCh (usK a) (usS b)).len [D.i (1 : Int), D.i (0 : Int)]).el (0) 0).toI == ofLo (if IntKind.i64.wrap (usS b + (1 : Int)) < IntKind.i64.wrap ((↑i : Int) + (1 : Int)) then IntKind.i64.wrap (usS b + (1 : Int)) else IntKind.i64.wrap ((↑i : Int) + (1 : Int))) (if IntKind.i64.wrap (usS b + (1 : Int)) < IntKind.i64.wrap ((↑i : Int) + (1 : Int)) then IntKind.i64.wrap (usS b + (1 : Int)) else IntKind.i64.wrap ((↑i : Int) + (1 : Int))) && (((if usB (usK a) (deafB usGr (0)) (usS b) (mnI (↑i : Int) (usS b + (1 : Int))) = true then usD (usB (usK a) (deafB usGr (0)) (usS b) (mnI (↑i : Int) (usS b + (1 : Int)))) (usC (↑i : Int) (usS b)) (Int.toNat (0 : Int)) [D.i (mnI (mnI (↑i : Int) (usS b + (1 : Int))) (usS b) + (1 : Int)), D.i (mnI (mnI (↑i : Int) (usS b + (1 : Int))) (usS b) + (1 : Int))] else repD (usCh (usK a) (usS b)).len [D.i (1 : Int), D.i (0 : Int)]).el (0) (0 + 1)).toI == ofHi (if IntKind.i64.wrap (usS b + (1 : Int)) < IntKind.i64.wrap ((↑i : Int) + (1 : Int)) then IntKind.i64.wrap (usS b + (1 : Int)) else IntKind.i64.wrap ((↑i : Int) + (1 : Int))) (if IntKind.i64.wrap (usS b + (1 : Int)) < IntKind.i64.wrap ((↑i : Int) + (1 : Int)) then IntKind.i64.wrap (usS b + (1 : Int)) else IntKind.i64.wrap ((↑i : Int) + (1 : Int))) && true))) = true → false = true) ∧ (((usZ (usB (usK a) (deafB usGr (0)) (usS b) (mnI (↑i : Int) (usS b + (1 : Int)))) (false, fun (x : Nat) => (0 : Int))).fst || (↑(if usB (usK a) (deafB usGr (0)) (usS b) (mnI (↑i : Int) (usS b + (1 : Int))) = true then usD (usB (usK a) (deafB usGr (0)) (usS b) (mnI (↑i : Int) (usS b + (1 : Int)))) (usC (↑i : Int) (usS b)) (Int.toNat (0 : Int)) [D.i (mnI (mnI (↑i : Int) (usS b + (1 : Int))) (usS b) + (1 : Int)), D.i (mnI (mnI (↑i : Int) (usS b + (1 : Int))) (usS b) + (1 : Int))] else repD (usCh (usK a) (usS b)).len [D.i (1 : Int), D.i (0 : Int)]).len : Int) != (1 : Int) || (↑(kD (D.l []) (4 : Int) (usK a == (1 : Int) && decide (usS b ≤ mnI (↑i : Int) (usS b + (1 : Int))))).len : Int) != (0 : Int) || (if usB (usK a) (deafB usGr (0)) (usS b) (mnI (↑i : Int) (usS b + (1 : Int))) = true then (0 : Int) else (-1 : Int)) != (0 : Int) || !((if usB (usK a) (deafB usGr (0)) (usS b) (mnI (↑i : Int) (usS b + (1 : Int))) = true then (evaP (Int.toNat (0 : Int)) (0 : Int) (false, fun (x : Nat) => (0 : Int)) (edX usGr (0 : Int) (0 : Int) 6)).fst.fst else (1 : Int)) == ofLo (5 : Int) (5 : Int) && ((if usB (usK a) (deafB usGr (0)) (usS b) (mnI (↑i : Int) (usS b + (1 : Int))) = true then (evaP (Int.toNat (0 : Int)) (0 : Int) (false, fun (x : Nat) => (0 : Int)) (edX usGr (0 : Int) (0 : Int) 6)).fst.snd else (0 : Int)) == ofHi (5 : Int) (5 : Int) && true)) || !(((if usB (usK a) (deafB usGr (0)) (usS b) (mnI (↑i : Int) (usS b + (1 : Int))) = true then usD (usB (usK a) (deafB usGr (0)) (usS b) (mnI (↑i : Int) (usS b + (1 : Int)))) (usC (↑i : Int) (usS b)) (Int.toNat (0 : Int)) [D.i (mnI (mnI (↑i : Int) (usS b + (1 : Int))) (usS b) + (1 : Int)), D.i (mnI (mnI (↑i : Int) (usS b + (1 : Int))) (usS b) + (1 : Int))] else repD (usCh (usK a) (usS b)).len [D.i (1 : Int), D.i (0 : Int)]).el (0) 0).toI == ofLo (if IntKind.i64.wrap (usS b + (1 : Int)) < IntKind.i64.wrap ((↑i : Int) + (1 : Int)) then IntKind.i64.wrap (usS b + (1 : Int)) else IntKind.i64.wrap ((↑i : Int) + (1 : Int))) (if IntKind.i64.wrap (usS b + (1 : Int)) < IntKind.i64.wrap ((↑i : Int) + (1 : Int)) then IntKind.i64.wrap (usS b + (1 : Int)) else IntKind.i64.wrap ((↑i : Int) + (1 : Int))) && (((if usB (usK a) (deafB usGr (0)) (usS b) (mnI (↑i : Int) (usS b + (1 : Int))) = true then usD (usB (usK a) (deafB usGr (0)) (usS b) (mnI (↑i : Int) (usS b + (1 : Int)))) (usC (↑i : Int) (usS b)) (Int.toNat (0 : Int)) [D.i (mnI (mnI (↑i : Int) (usS b + (1 : Int))) (usS b) + (1 : Int)), D.i (mnI (mnI (↑i : Int) (usS b + (1 : Int))) (usS b) + (1 : Int))] else repD (usCh (usK a) (usS b)).len [D.i (1 : Int), D.i (0 : Int)]).el (0) (0 + 1)).toI == ofHi (if IntKind.i64.wrap (usS b + (1 : Int)) < IntKind.i64.wrap ((↑i : Int) + (1 : Int)) then IntKind.i64.wrap (usS b + (1 : Int)) else IntKind.i64.wrap ((↑i : Int) + (1 : Int))) (if IntKind.i64.wrap (usS b + (1 : Int)) < IntKind.i64.wrap ((↑i : Int) + (1 : Int)) then IntKind.i64.wrap (usS b + (1 : Int)) else IntKind.i64.wrap ((↑i : Int) + (1 : Int))) && true))) = false → ((usZ (usB (usK a) (deafB usGr (0)) (usS b) (mnI (↑i : Int) (usS b + (1 : Int)))) (false, fun (x : Nat) => (0 : Int))).fst = true → (true = true ∧ True → 0 < (deafD usGr 1).len) ∧ (true && deafB usGr (0)) = true) ∧ ((usZ (usB (usK a) (deafB usGr (0)) (usS b) (mnI (↑i : Int) (usS b + (1 : Int)))) (false, fun (x : Nat) => (0 : Int))).fst = false → ∃ (j : Nat), ((↑j : Int) ≤ usN d ∧ (usK a ≠ (2 : Int) → (↑j : Int) ≤ usS b)) ∧ 21 - j < 21 - i ∧ IntKind.i64.wrap ((↑i : Int) + (1 : Int)) = (↑j : Int) ∧ usN d = usN d ∧ (usZ (usB (usK a) (deafB usGr (0)) (usS b) (mnI (↑i : Int) (usS b + (1 : Int)))) (false, fun (x : Nat) => (0 : Int))).fst = false ∧ List.map (fun (j : Nat) => [D.i (itvLo (0 : Int) (usZ (usB (usK a) (deafB usGr (0)) (usS b) (mnI (↑i : Int) (usS b + (1 : Int)))) (false, fun (x : Nat) => (0 : Int))).fst (usZ (usB (usK a) (deafB usGr (0)) (usS b) (mnI (↑i : Int) (usS b + (1 : Int)))) (false, fun (x : Nat) => (0 : Int))).snd (↑j : Int)), D.i (itvHi (0 : Int) (usZ (usB (usK a) (deafB usGr (0)) (usS b) (mnI (↑i : Int) (usS b + (1 : Int)))) (false, fun (x : Nat) => (0 : Int))).fst (usZ (usB (usK a) (deafB usGr (0)) (usS b) (mnI (↑i : Int) (usS b + (1 : Int)))) (false, fun (x : Nat) => (0 : Int))).snd (↑j : Int))]) (List.range (Int.toNat (0 : Int))) = List.map (fun (j : Nat) => [D.i (itvLo (0 : Int) false (fun (x : Nat) => (0 : Int)) (↑j : Int)), D.i (itvHi (0 : Int) false (fun (x : Nat) => (0 : Int)) (↑j : Int))]) (List.range 0) ∧ (0 : Int) = (0 : Int) ∧ (usZ (usB (usK a) (deafB usGr (0)) (usS b) (mnI (↑i : Int) (usS b + (1 : Int)))) (false, fun (x : Nat) => (0 : Int))).fst = false ∧ (∀ (o : Nat), o < 49 → (usZ (usB (usK a) (deafB usGr (0)) (usS b) (mnI (↑i : Int) (usS b + (1 : Int)))) (false, fun (x : Nat) => (0 : Int))).snd o = (0 : Int)) ∧ (if usB (usK a) (deafB usGr (0)) (usS b) (mnI (↑i : Int) (usS b + (1 : Int))) = true then usD (usB (usK a) (deafB usGr (0)) (usS b) (mnI (↑i : Int) (usS b + (1 : Int)))) (usC (↑i : Int) (usS b)) (Int.toNat (0 : Int)) [D.i (mnI (mnI (↑i : Int) (usS b + (1 : Int))) (usS b) + (1 : Int)), D.i (mnI (mnI (↑i : Int) (usS b + (1 : Int))) (usS b) + (1 : Int))] else repD (usCh (usK a) (usS b)).len [D.i (1 : Int), D.i (0 : Int)]).rows = [[D.i (mnI (↑j : Int) (usS b + (1 : Int))), D.i (mnI (↑j : Int) (usS b + (1 : Int)))]] ∧ (if usB (usK a) (deafB usGr (0)) (usS b) (mnI (↑i : Int) (usS b + (1 : Int))) = true then usD (usB (usK a) (deafB usGr (0)) (usS b) (mnI (↑i : Int) (usS b + (1 : Int)))) (D.l [[D.i (1 : Int)]]) (Int.toNat (0 : Int)) [D.i (1 : Int)] else repD (usCh (usK a) (usS b)).len [D.i (0 : Int)]).rows = [[D.i (1 : Int)]] ∧ usK a = usK a ∧ usS b = usS b ∧ (0 : Int) = (0 : Int) ∧ (1 : Int) = (1 : Int) ∧ (1 : Int) = (1 : Int) ∧ [[D.i (usK a), D.i (usS b), D.i (0 : Int), D.i (1 : Int), D.i (1 : Int), D.l []]] = [[D.i (usK a), D.i (usS b), D.i (0 : Int), D.i (1 : Int), D.i (1 : Int), D.l []]] ∧ [[D.i (2 : Int), D.l [usE (3 : Int) (1 : Int) (5 : Int)], D.l []], [D.i (2 : Int), D.l [usE (0 : Int) (0 : Int) (0 : Int)], D.l []]] = [[D.i (2 : Int), D.l [usE (3 : Int) (1 : Int) (5 : Int)], D.l []], [D.i (2 : Int), D.l [usE (0 : Int) (0 : Int) (0 : Int)], D.l []]] ∧ [[D.i (0 : Int)], [D.i (0 : Int)]] = [[D.i (0 : Int)], [D.i (0 : Int)]] ∧ [[D.i (0 : Int), D.i (0 : Int), prD 1 fun (x : Nat) => ((1 : Int), (0 : Int))]] = [[D.i (0 : Int), D.i (0 : Int), prD 1 fun (x : Nat) => ((1 : Int), (0 : Int))]] ∧ List.map (fun (i : Nat) => [D.b (deafB usGr i)]) (List.range 1) = List.map (fun (i : Nat) => [D.b (deafB usGr i)]) (List.range 1)))))) ∧ (decide ((↑i : Int) < usN d) = false → (true = true ∧ True → 0 < (deafD usGr 1).len) ∧ (true && deafB usGr (0)) = true)) (by kernel_rfl) ?_
    have hK := usK_in a
    have hS := usS_in b
    refine ⟨⟨true, trivial, rfl, rfl, rfl, rfl, rfl, rfl⟩, fun _ _ => ⟨?_, fun _ _ => ⟨?_, fun _ _ => ⟨?_, fun _ _ => ⟨?_, ?_⟩⟩⟩⟩⟩
    · refine ⟨Nat.le_refl _, Nat.le_refl _, true, trivial, ?_⟩
      (repeat' apply And.intro) <;> first | rfl | exact Nat.le_refl _
    · refine ⟨by decide, Nat.le_of_ble_eq_true rfl, Nat.le_of_ble_eq_true rfl, fun g hg => ?_, true, trivial, ?_⟩
      · have hg : g < 2 := hg
        have : g = 0 ∨ g = 1 := by omega
        rcases this with rfl | rfl <;> exact Nat.le_of_ble_eq_true rfl
      · (repeat' apply And.intro) <;> first | rfl | exact Nat.le_refl _
    · refine ⟨Nat.le_of_ble_eq_true rfl, true, trivial, ?_⟩
      have hm0 : mnI 0 (usS b + 1) = 0 := if_neg (by omega)
      rw [hm0]
      (repeat' apply And.intro) <;> first | rfl | (intro _ _; rfl)
    · refine ⟨0, ⟨by have := usN_in d; omega, fun _ => by omega⟩, ?_⟩
      (repeat' apply And.intro) <;> first | rfl | (intro _ _; rfl)
    have hN := usN_in d
    rintro i ⟨hi1, hi2⟩
    have hdl : (True ∧ True → 0 < (deafD usGr 1).len) ∧ (true && true) = true := ⟨fun _ => Nat.zero_lt_one, rfl⟩
    simp only [us_ev, us_deaf]
    refine ⟨fun hl => ?_, fun _ => hdl⟩
    have hl := of_decide_eq_true hl
    have w1 : IntKind.i64.wrap ((i : Int) + 1) = (i : Int) + 1 := IntWalk.i64_in _ (by omega)
    have w2 : IntKind.i64.wrap (usS b + 1) = usS b + 1 := IntWalk.i64_in _ (by omega)
    have hmn : 0 ≤ mnI (i : Int) (usS b + 1) ∧ mnI (i : Int) (usS b + 1) ≤ 17 := by unfold mnI; split <;> omega
    rw [w1, w2]
    have hmm : (if usS b + 1 < (i : Int) + 1 then usS b + 1 else (i : Int) + 1) = mnI (i : Int) (usS b) + 1 := by unfold mnI; split <;> (split <;> omega)
    rw [hmm]
    have hm1 : 0 ≤ mnI (i : Int) (usS b) ∧ mnI (i : Int) (usS b) ≤ 16 := by unfold mnI; split <;> omega
    obtain ⟨o1, o2⟩ := of_one (a := mnI (i : Int) (usS b) + 1) (by omega)
    obtain ⟨o3, o4⟩ := of_one (a := 5) (by omega)
    have hm2 : mnI (mnI (i : Int) (usS b + 1)) (usS b) = mnI (i : Int) (usS b) := by unfold mnI; split <;> (split <;> (first | omega | (split <;> omega)))
    rw [o1, o2, o3, o4, hm2]
    refine ⟨us_num, ⟨Int.le_refl _, Int.zero_lt_one⟩, Int.zero_lt_one, Int.zero_lt_one, Int.zero_lt_one, hS, hmn, trivial, rfl, Int.le_refl _, trivial, trivial, rfl, rfl, rfl, rfl, Nat.le_of_ble_eq_true rfl, trivial, ?_⟩
    generalize hKK : usK a = K at *
    generalize hSS : usS b = S at *
    generalize hNN : usN d = N at *
    by_cases hge : K ≠ 2 ∧ S ≤ (i : Int)
    · have hi3 := hi2 hge.1
      have hiS : (i : Int) = S := by omega
      have hU : usB K true S (mnI (i : Int) (S + 1)) = false := by
        have : mnI (i : Int) (S + 1) = S := by unfold mnI; rw [if_neg (by omega)]; exact hiS
        rw [this]
        unfold usB
        rw [decide_eq_true (Int.le_refl S)]
        have : (K != 2) = true := by simpa using hge.1
        rw [this]; rfl
      have hd : decide ((i : Int) ≥ S) = true := decide_eq_true hge.2
      simp only [hU, hd, usZ, Bool.false_eq_true, if_false]
      have hdS : decide (S ≤ mnI (i : Int) (S + 1)) = true := decide_eq_true (by unfold mnI; split <;> omega)
      rcases hK with rfl | rfl | rfl
      · exact ⟨fun _ => ⟨fun h => Bool.false_ne_true h, fun _ => ⟨fun _ => hdl, fun h => Bool.noConfusion h⟩⟩, fun h => Bool.noConfusion h⟩
      · rw [hdS]
        exact ⟨fun h => Bool.noConfusion h, fun _ => ⟨fun _ => ⟨fun _ => Nat.zero_lt_one, fun h => Bool.false_ne_true h, fun _ => ⟨fun _ => hdl, fun h => Bool.noConfusion h⟩⟩, fun h => Bool.noConfusion h⟩⟩
      · exact absurd rfl hge.1
    · have hU : usB K true S (mnI (i : Int) (S + 1)) = true := by
        unfold usB
        by_cases h2 : K = 2
        · rw [h2]; rfl
        · have : ¬ S ≤ mnI (i : Int) (S + 1) := by unfold mnI; split <;> omega
          rw [decide_eq_false this, Bool.and_false]; rfl
      simp only [hU, usZ, if_true]
      have hc : K = 2 ∨ (i : Int) < S := by
        by_cases h2 : K = 2
        · exact .inl h2
        · exact .inr (by
            rcases Int.lt_or_le (i : Int) S with h | h
            · exact h
            · exact absurd ⟨h2, h⟩ hge)
      have h0 : (decide ((i : Int) ≥ S) && K == 0) = false := by
        rcases hc with rfl | h
        · exact Bool.and_false _
        · rw [decide_eq_false (by omega)]; rfl
      have h1 : (decide ((i : Int) ≥ S) && K == 1) = false := by
        rcases hc with rfl | h
        · exact Bool.and_false _
        · rw [decide_eq_false (by omega)]; rfl
      have hf : (K == 1 && decide (S ≤ mnI (i : Int) (S + 1))) = false := by
        rcases hc with rfl | h
        · rfl
        · rw [decide_eq_false (by unfold mnI; split <;> omega)]; exact Bool.and_false _
      have hj : mnI (((i + 1 : Nat)) : Int) (S + 1) = mnI (i : Int) S + 1 := by unfold mnI; split <;> (split <;> omega)
      have e1 : ((usD true (usC (i : Int) S) (Int.toNat 0) [D.i (mnI (i : Int) S + 1), D.i (mnI (i : Int) S + 1)]).el 0 0).toI = mnI (i : Int) S + 1 := rfl
      have e2 : ((usD true (usC (i : Int) S) (Int.toNat 0) [D.i (mnI (i : Int) S + 1), D.i (mnI (i : Int) S + 1)]).el 0 (0 + 1)).toI = mnI (i : Int) S + 1 := rfl
      rw [h0, h1, hf, e1, e2, beq_self_eq_true (mnI (i : Int) S + 1)]
      refine ⟨fun h => Bool.noConfusion h, fun _ => ⟨fun h => Bool.noConfusion h, fun _ => ⟨fun _ => Nat.zero_lt_one, fun h => h, fun _ => ⟨fun h => Bool.noConfusion h, fun _ => ⟨i + 1, ⟨by omega, fun h2 => ?_⟩, by omega, by omega, ?_⟩⟩⟩⟩⟩
      · rcases hc with h | h
        · exact absurd h h2
        · omega
      · rw [hj]
        (repeat' apply And.intro) <;> first | trivial | rfl | (intro _ _; trivial)
  · trivial
end Go.Proofs.YtlgmofjjjhbgkaaGreat.Sx.Z
