/-
  What an expression may be has what it is; of one row of numbers it is that alone.
-/
import Derived.Test.YtbcbcambkjhhhaaProg
import Derived.Test.YtbcbcambkjhhhaaChecked
import Derived.Laws.Bits64
import Derived.ChangeArms
import Derived.OpenShut
import Derived.WideShapes
import Derived.ChangeShapes
import Derived.Carry
import Derived.DataReads
import Derived.KernelRfl
import Derived.Deep.LoopGhost
import Derived.Laws.Append
import Derived.Laws.AppendOwn
import Derived.Laws.MakeOwn
import Derived.Laws.StructEq
import Derived.Laws.Cells
import Derived.Laws.CopyRow
import Derived.Laws.Rows
import Derived.Below
import Derived.Orders
import Derived.ChangeKeysEq
import Derived.IntWalk
import Derived.Deep.CutRange
import Derived.WalkKit
import Derived.ProofKit
import Derived.Handy
import Derived.Lib.Hide
import Derived.Deep.WholeRow
import Derived.Deep.Cut
import Derived.Deep.RegionHeld3
import Derived.RegionTactic
import Derived.Test.YtbcbcambkjhhhaaMA
import Derived.Test.YtbcbcambkjhhhaaMB
import Derived.Test.YtbcbcambkjhhhaaMC
import Derived.Test.YtbcbcambkjhhhaaMD
import Derived.Test.YtbcbcambkjhhhaaME
import Derived.Test.YtbcbcambkjhhhaaMF
import Derived.Test.YtbcbcambkjhhhaaMG
import Derived.Test.YtbcbcambkjhhhaaMH
import Derived.Test.YtbcbcambkjhhhaaMI
import Derived.Test.YtbcbcambkjhhhaaMJ
import Derived.Test.YtbcbcambkjhhhaaMK
import Derived.Test.YtbcbcambkjhhhaaML
import Derived.Test.YtbcbcambkjhhhaaMM
import Derived.Test.YtbcbcambkjhhhaaMj1
import Derived.Test.YtbcbcambkjhhhaaMN
import Derived.Test.YtbcbcambkjhhhaaMO
import Derived.Test.YtbcbcambkjhhhaaMP
import Derived.Test.YtbcbcambkjhhhaaMQ
import Derived.Test.YtbcbcambkjhhhaaMR
import Derived.Test.YtbcbcambkjhhhaaMS
import Derived.Test.YtbcbcambkjhhhaaMU
import Derived.Test.YtbcbcambkjhhhaaMV
import Derived.Test.YtbcbcambkjhhhaaMW
import Derived.Test.YtbcbcambkjhhhaaMX
import Derived.Test.YtbcbcambkjhhhaaMY
import Derived.Test.YtbcbcambkjhhhaaMZ
import Derived.Test.YtbcbcambkjhhhaaMa1
import Derived.Test.YtbcbcambkjhhhaaMb1
namespace Go.Proofs.Ytbcbcambkjhhhaa.Sx.Z
open Go.RowKit
theorem rec_0 (I : D) (k n v : Int) : recP I (.mk k n v []) = if k = 1 then (ofI n n, (false, false)) else if k = 2 ∧ 0 ≤ v ∧ v < I.len then (prI I v, (false, false)) else noE := by
  rw [recP.eq_3 _ _ _ _ _ (fun a h => by cases h) (fun a b h => by cases h)]
theorem rec_1 (I : D) (a : Xp) : recP I (.mk 3 0 0 [a]) = negE (recP I a) := by
  rw [recP]; simp
theorem rec_2 (I : D) (k : Int) (h : 4 ≤ k) (a b : Xp) : recP I (.mk k 0 0 [a, b]) = doE k (bothI (recP I a) (recP I b)) := by
  rw [recP, if_neg (by omega), if_neg (by omega)]
theorem of_nn {n : Int} (h : -2147483648 ≤ n ∧ n ≤ 2147483647) : ofI n n = (n, n) := nm_id (p := (n, n)) (.inr (by dsimp only; omega))
/-- A number is one of what is told, or its error is told. -/
def Snd (r : IE) (t : Int × Int) : Prop := (t.2 = 0 → r.1.1 ≤ t.1 ∧ t.1 ≤ r.1.2) ∧ (t.2 = 2 → r.2.1 = true) ∧ (t.2 = 3 → r.2.2 = true)
theorem both_snd {l r : IE} {s t : Int × Int} (hl : Snd l s) (_hr : Snd r t) : (s.2 = 0 → bothI l r = (l.1, r.1, tg l.2 r.2)) ∧ (s.2 = 2 → (bothI l r).2.2.1 = true) ∧ (s.2 = 3 → (bothI l r).2.2.2 = true) := by
  unfold bothI
  refine ⟨fun h => if_neg (by have := hl.1 h; omega), fun h => ?_, fun h => ?_⟩
  · have := hl.2.1 h
    split
    · exact this
    · show (l.2.1 || r.2.1) = true
      rw [this]; rfl
  · have := hl.2.2 h
    split
    · exact this
    · show (l.2.2 || r.2.2) = true
      rw [this]; rfl
/-- One operation of what may be, and of what is. -/
theorem do_snd {k : Int} (h4 : 4 ≤ k) (h8 : k ≤ 8) {l r : IE} {s t : Int × Int} (hl : Snd l s) (hr : Snd r t) (gl : Rg l.1) (gr : Rg r.1) (_cs : s.2 = 0 ∨ s.2 = 2 ∨ s.2 = 3) (_ct : t.2 = 0 ∨ t.2 = 2 ∨ t.2 = 3) : Snd (doE k (bothI l r)) (opT k s t) := by
  obtain ⟨b0, b2, b3⟩ := both_snd hl hr
  have tgl : ∀ {x y : Bool × Bool}, x.1 = true → (tg x y).1 = true := fun h => by unfold tg; rw [h]; rfl
  have tgl2 : ∀ {x y : Bool × Bool}, x.2 = true → (tg x y).2 = true := fun h => by unfold tg; rw [h]; rfl
  have tgr : ∀ {x y : Bool × Bool}, y.1 = true → (tg x y).1 = true := fun h => by unfold tg; rw [h]; simp
  have tgr2 : ∀ {x y : Bool × Bool}, y.2 = true → (tg x y).2 = true := fun h => by unfold tg; rw [h]; simp
  by_cases hs : s.2 = 0
  · by_cases ht : t.2 = 0
    · have e := b0 hs
      have ls := hl.1 hs
      have rs := hr.1 ht
      have nd : ¬ NoDo k l.1 r.1 := by unfold NoDo; omega
      have ok := (doI_ok nd gl gr).2
      have en := errP_or k s.1 t.1
      rw [opT_v hs ht, e]
      unfold doE
      dsimp only
      refine ⟨fun h => ?_, fun h => ?_, fun h => ?_⟩
      · by_cases h0 : errP k s.1 t.1 = 0
        · rw [if_pos h0]; exact ok.has _ _ ls.1 ls.2 rs.1 rs.2 h0
        · rw [if_neg h0] at h; exact absurd h h0
      · by_cases h0 : errP k s.1 t.1 = 0
        · rw [if_pos h0] at h; dsimp only at h; omega
        · rw [if_neg h0] at h; exact tgr (ok.over _ _ ls.1 ls.2 rs.1 rs.2 h)
      · by_cases h0 : errP k s.1 t.1 = 0
        · rw [if_pos h0] at h; dsimp only at h; omega
        · rw [if_neg h0] at h
          dsimp only at h
          refine tgr2 ?_
          rw [ok.zero]
          simp; omega
    · have e := b0 hs
      rw [opT_r hs ht, e]
      unfold doE
      dsimp only
      exact ⟨fun h => absurd h ht, fun h => tgl (tgr (hr.2.1 h)), fun h => tgl2 (tgr2 (hr.2.2 h))⟩
  · rw [opT_l hs]
    unfold doE
    exact ⟨fun h => absurd h hs, fun h => tgl (b2 h), fun h => tgl2 (b3 h)⟩
theorem neg_eq (r : IE) : negE r = doE 5 (bothI ((0, 0), (false, false)) r) := by
  unfold negE doE bothI negI
  rw [if_neg (by decide)]
  show _ = ((doI 5 (0, 0) r.1).1, tg (tg (false, false) r.2) (doI 5 (0, 0) r.1).2)
  have : tg (false, false) r.2 = r.2 := by unfold tg; simp
  rw [this]
theorem snd_0 : Snd ((0, 0), (false, false)) (0, 0) := ⟨fun _ => ⟨Int.le_refl _, Int.le_refl _⟩, fun h => (by cases h), fun h => (by cases h)⟩
theorem rec_snd {w : Int} {I : D} {g : Int → Int} (hw : w = I.len) (hI : RgI I) (hg : InV w g) (hv : ∀ v, 0 ≤ v → v < w → (prI I v).1 ≤ g v ∧ g v ≤ (prI I v).2) {e : Xp} (h : Tm w e) : Snd (recP I e) (evT g e) := by
  induction h with
  | num n h0 h1 =>
    rw [rec_0, if_pos rfl, ev_0, if_pos rfl, of_nn (by omega)]
    exact ⟨fun _ => ⟨Int.le_refl _, Int.le_refl _⟩, fun h => (by cases h), fun h => (by cases h)⟩
  | var v h0 h1 =>
    rw [rec_0, if_neg (by decide), if_pos ⟨rfl, h0, by omega⟩, ev_0, if_neg (by decide)]
    exact ⟨fun _ => hv v h0 h1, fun h => (by cases h), fun h => (by cases h)⟩
  | neg a ha ih =>
    rw [rec_1, ev_1, neg_eq]
    exact do_snd (by omega) (by omega) snd_0 ih (.inr (by decide)) (rec_rg hI a) (.inl rfl) (ev_in hg ha).1
  | bin k a b h4 h8 ha hb ia ib =>
    rw [rec_2 _ _ h4, ev_2]
    exact do_snd h4 h8 ia ib (rec_rg hI a) (rec_rg hI b) (ev_in hg ha).1 (ev_in hg hb).1
/-- Of one row of numbers. -/
def alone (t : Int × Int) : IE := (if t.2 = 0 then (t.1, t.1) else (1, 0), (decide (t.2 = 2), decide (t.2 = 3)))
theorem do_alone {k : Int} (h4 : 4 ≤ k) (h8 : k ≤ 8) {s t : Int × Int} (cs : (s.2 = 0 ∨ s.2 = 2 ∨ s.2 = 3) ∧ (s.2 ≠ 0 → s.1 = 0) ∧ -2147483648 ≤ s.1 ∧ s.1 ≤ 2147483647) (ct : (t.2 = 0 ∨ t.2 = 2 ∨ t.2 = 3) ∧ (t.2 ≠ 0 → t.1 = 0) ∧ -2147483648 ≤ t.1 ∧ t.1 ≤ 2147483647) : doE k (bothI (alone s) (alone t)) = alone (opT k s t) := by
  obtain ⟨a, p⟩ := s
  obtain ⟨b, q⟩ := t
  dsimp only at cs ct
  have tn : ∀ x : Bool × Bool, tg x (false, false) = x := fun x => by unfold tg; simp
  have tl : ∀ x : Bool × Bool, tg (false, false) x = x := fun x => by unfold tg; simp
  by_cases hp : p = 0
  · subst hp
    have ea : alone (a, 0) = ((a, a), (false, false)) := rfl
    by_cases hq : q = 0
    · subst hq
      have eb : alone (b, 0) = ((b, b), (false, false)) := rfl
      have nd : ¬ NoDo k (a, a) (b, b) := by unfold NoDo; dsimp only; omega
      have ok := (doI_ok nd (.inr (by dsimp only; omega)) (.inr (by dsimp only; omega))).2
      have e : bothI ((a, a), (false, false)) ((b, b), (false, false)) = ((a, a), (b, b), (false, false)) := by
        unfold bothI; rw [if_neg (by dsimp only; omega)]; rfl
      rw [ea, eb, e, opT_v rfl rfl]
      unfold doE
      dsimp only at ok ⊢
      rw [tl]
      generalize doI k (a, a) (b, b) = r at ok ⊢
      obtain ⟨⟨z0, z1⟩, ⟨ov, dz⟩⟩ := r
      dsimp only at ok ⊢
      have en := errP_or k a b
      have hov : ov = true → errP k a b = 2 := fun h => by
        obtain ⟨x, y, x0, x1, y0, y1, h2⟩ := ok.sure (.inr ⟨rfl, rfl⟩) h
        have ex : x = a := by omega
        have ey : y = b := by omega
        rw [ex, ey] at h2; exact h2
      have hov2 : errP k a b = 2 → ov = true := fun h => ok.over a b (Int.le_refl _) (Int.le_refl _) (Int.le_refl _) (Int.le_refl _) h
      have hdz : dz = decide (errP k a b = 3) := by
        rw [ok.zero]
        by_cases h7 : 7 ≤ k ∧ b = 0
        · have : errP k a b = 3 := by omega
          rw [this]; simp; omega
        · have : ¬ errP k a b = 3 := by omega
          rw [decide_eq_false this]; simp; omega
      have hv : ov = decide (errP k a b = 2) := by
        by_cases h2 : errP k a b = 2
        · rw [hov2 h2, decide_eq_true h2]
        · rw [decide_eq_false h2]
          cases ov with
          | false => rfl
          | true => exact absurd (hov rfl) h2
      by_cases h0 : errP k a b = 0
      · obtain ⟨q1, q2⟩ := (ok.alone ⟨rfl, rfl⟩).2 h0
        rw [if_pos h0, hv, hdz, h0, q1, q2]
        rfl
      · obtain ⟨q1, q2⟩ := (ok.alone ⟨rfl, rfl⟩).1 h0
        rw [if_neg h0, hv, hdz, q1, q2]
        unfold alone
        rw [if_neg h0]
    · have eb : alone (b, q) = ((1, 0), (decide (q = 2), decide (q = 3))) := by unfold alone; rw [if_neg hq]
      have e : bothI ((a, a), (false, false)) ((1, 0), (decide (q = 2), decide (q = 3))) = ((a, a), (1, 0), (decide (q = 2), decide (q = 3))) := by
        unfold bothI; rw [if_neg (by dsimp only; omega), tl]
      have d : doI k (a, a) (1, 0) = ((1, 0), (false, false)) := doI_none (.inr (.inl (by decide)))
      rw [ea, eb, e, opT_r rfl hq]
      unfold doE
      dsimp only
      rw [d, tn]
      unfold alone
      rw [if_neg hq]
  · have ea : alone (a, p) = ((1, 0), (decide (p = 2), decide (p = 3))) := by unfold alone; rw [if_neg hp]
    have e : bothI ((1, 0), (decide (p = 2), decide (p = 3))) (alone (b, q)) = ((1, 0), (1, 0), (decide (p = 2), decide (p = 3))) := by
      unfold bothI; rw [if_pos (show (0 : Int) < 1 by decide)]
    have d : doI k (1, 0) (1, 0) = ((1, 0), (false, false)) := doI_none (.inl (by decide))
    rw [ea, e, opT_l hp]
    unfold doE
    dsimp only
    rw [d, tn]
    unfold alone
    rw [if_neg hp]
theorem rec_alone {w : Int} {I : D} {g : Int → Int} (hw : w = I.len) (hg : InV w g) (hv : ∀ v, 0 ≤ v → v < w → prI I v = (g v, g v)) {e : Xp} (h : Tm w e) : recP I e = alone (evT g e) := by
  induction h with
  | num n h0 h1 =>
    rw [rec_0, if_pos rfl, ev_0, if_pos rfl, of_nn (by omega)]
    rfl
  | var v h0 h1 =>
    rw [rec_0, if_neg (by decide), if_pos ⟨rfl, h0, by omega⟩, ev_0, if_neg (by decide), hv v h0 h1]
    rfl
  | neg a ha ih =>
    rw [rec_1, ev_1, neg_eq, ih]
    exact do_alone (by omega) (by omega) (s := (0, 0)) ⟨.inl rfl, fun h => absurd rfl h, by decide, by decide⟩ (ev_in hg ha)
  | bin k a b h4 h8 ha hb ia ib =>
    rw [rec_2 _ _ h4, ev_2, ia, ib]
    exact do_alone h4 h8 (ev_in hg ha) (ev_in hg hb)
/-- A variable's number, or nought, and so much more. -/
theorem lin_ev {w : Int} (hw : 1 ≤ w) {g : Int → Int} (hg : InV w g) {e : Xp} (h : Tm w e) {y b : Int} (hl : linP e = some (y, b)) (h0 : (evT g e).2 = 0) : (evT g e).1 = (if y = -1 then 0 else g y) + b := by
  induction h generalizing y b with
  | num n n0 n1 =>
    rw [linP.eq_2 _ _ _ _ (fun a b h => by cases h), if_pos rfl] at hl
    unfold amtP at hl
    rw [if_neg (by omega)] at hl
    obtain ⟨rfl, rfl⟩ := Prod.mk.inj (Option.some.inj hl)
    rw [ev_0, if_pos rfl, if_pos rfl]; dsimp only; omega
  | var v v0 v1 =>
    rw [linP.eq_2 _ _ _ _ (fun a b h => by cases h), if_neg (by decide), if_pos rfl] at hl
    obtain ⟨rfl, rfl⟩ := Prod.mk.inj (Option.some.inj hl)
    rw [ev_0, if_neg (by decide), if_neg (by omega)]; dsimp only; omega
  | neg a ha ih =>
    rw [linP.eq_2 _ _ _ _ (fun a b h => by cases h), if_neg (by decide), if_neg (by decide), if_neg (by decide)] at hl
    cases hl
  | bin k a c h4 h8 ha hb ia ib =>
    rw [linP, if_neg (by omega), if_neg (by omega)] at hl
    rw [ev_2] at h0 ⊢
    have ka := (lin_same hw ha).2
    have kc := (lin_same hw hb).2
    have ea := ev_in hg ha
    have ec := ev_in hg hb
    split at hl
    · rename_i k45
      generalize linP a = L at *
      generalize linP c = R at *
      generalize evT g a = s at *
      generalize evT g c = t at *
      rcases L with _ | ⟨x, m⟩
      · rw [comb_l] at hl; cases hl
      · rcases R with _ | ⟨z, p⟩
        · rw [comb_r] at hl; cases hl
        · have s0 : s.2 = 0 := by
            by_cases q : s.2 = 0
            · exact q
            · rw [opT_l q] at h0; exact absurd h0 q
          have t0 : t.2 = 0 := by
            by_cases q : t.2 = 0
            · exact q
            · rw [opT_r s0 q] at h0; exact absurd h0 q
          have e1 := ia rfl s0
          have e2 := ib rfl t0
          have xm := ka x m rfl
          have zp := kc z p rfl
          have w1 : IntKind.i64.wrap (m - p) = m - p := wr _ (by omega)
          have w2 : IntKind.i64.wrap (m + p) = m + p := wr _ (by omega)
          have er := errP_or k s.1 t.1
          rw [opT_v s0 t0] at h0 ⊢
          have e0 : errP k s.1 t.1 = 0 := by
            by_cases q : errP k s.1 t.1 = 0
            · exact q
            · rw [if_neg q] at h0; exact absurd h0 q
          rw [if_pos e0]
          rw [comb_some, w1, w2] at hl
          have am : ∀ {u v : Int}, amtP u v = some (y, b) → u = y ∧ v = b := fun {u v} h => by
            unfold amtP at h
            split at h
            · cases h
            · exact Prod.mk.inj (Option.some.inj h)
          dsimp only
          split at hl
          · rename_i c5
            obtain ⟨rfl, rfl⟩ := am hl
            have v5 : valP k s.1 t.1 = s.1 - t.1 := by rw [c5.1]; rfl
            rw [v5, e1, e2, c5.2]; simp; omega
          · split at hl
            · rename_i c4
              obtain ⟨rfl, rfl⟩ := am hl
              have v5 : valP k s.1 t.1 = s.1 + t.1 := by rw [c4.1]; rfl
              rw [v5, e1, e2, c4.2]; simp; omega
            · split at hl
              · rename_i c4
                obtain ⟨rfl, rfl⟩ := am hl
                have v5 : valP k s.1 t.1 = s.1 + t.1 := by rw [c4.1]; rfl
                rw [v5, e1, e2, c4.2]; simp; omega
              · cases hl
    · cases hl
end Go.Proofs.Ytbcbcambkjhhhaa.Sx.Z
namespace Go.Proofs.Ytbcbcambkjhhhaa.Sx.Z
open Go.RowKit
theorem sg_of {n : Int} {w : Zs} {q : Nat → Int} (g : Good n w) (p : Pt n w q) (h : ∀ v, Pt n w v → ∀ i, i < R n → v i - v 0 ≤ q i - q 0 ∧ v 0 - v i ≤ q 0 - q i) : Sg n w q :=
  ⟨g, p, fun v hv i hi => by have := h v hv i hi; have a := hv.2.1; have b := p.2.1; omega⟩
theorem sg_copy {n x y b : Int} {z : Zs} {p : Nat → Int} (s : Sg n z p) (hx : isVarP n x = true) (hy : isEndP n y = true) (hf : -1099511627776 ≤ b ∧ b ≤ 1099511627776) (hb : -2147483648 ≤ p (y + 1).toNat + b ∧ p (y + 1).toNat + b ≤ 2147483647) : Sg n (copyZ n x y b z) (upd p (x + 1).toNat (p (y + 1).toNat + b)) := by
  have hR := R_le n
  have g := s.1
  obtain ⟨ha, hac, ha1⟩ := isVar_R hx
  have pc := pt_copy g hx hy hf s.2.1 hb
  refine sg_of (good_copy g _ _ _) pc fun v hv i hi => ?_
  have hz := s.2.1.1
  unfold copyZ at hv
  rw [if_neg (by rw [hz, hx, hy]; simp), if_neg (by simp only [Bool.or_eq_true, decide_eq_true_eq]; omega)] at hv
  have g2 := cp2_good g y b
  by_cases hxy : x = y
  · subst hxy
    rw [if_pos (by simp)] at hv
    have hc : (cp2 n x b z).1 = false := hv.1
    have en : ∀ i j, i < R n → j < R n → (cp2 n x b z).2 (i * 7 + j) ≤ p i - p j := fun i j hi hj => Int.le_trans (cp2_mono g hy hc hi hj) (sg_ent s hi hj)
    have e : ∀ i j, (shZ n (x + 1).toNat b (cp2 n x b z)).2 (i * 7 + j) = shTo (cp2 n x b z).2 (x + 1).toNat b (R n) (i * 7 + j) := fun i j => by
      show shiftF n (cp2 n x b z).1 (cp2 n x b z).2 (x + 1).toNat b _ = _
      unfold shiftF
      rw [if_neg (by rw [hc]; simp)]; rfl
    have t1 := hv.2.2 i 0 hi (by omega)
    have t2 := hv.2.2 0 i (by omega) hi
    rw [e, sh_at hi (by omega) hR.2.1] at t1
    rw [e, sh_at (by omega) hi hR.2.1] at t2
    have n1 := en i 0 hi (by omega)
    have n2 := en 0 i (by omega) hi
    by_cases hia : i = (x + 1).toNat
    · rw [if_pos ⟨hia, by omega⟩] at t1
      rw [if_neg (by omega), if_pos ⟨hia, by omega⟩] at t2
      rw [hia, upd_at, upd_ne (by omega)]
      subst hia
      omega
    · rw [if_neg (by omega), if_neg (by omega)] at t1
      rw [if_neg (by omega), if_neg (by omega)] at t2
      rw [upd_ne hia, upd_ne (by omega)]
      omega
  · rw [if_neg (by simpa using hxy)] at hv
    have hyc := isEnd_R hy
    have hne : (y + 1).toNat ≠ (x + 1).toNat := fun e => hxy (by omega)
    have g3 := good_fg g2 x
    obtain ⟨p1, h1⟩ := (bnd_pt (good_bnd g3 _ _ _) hy (isVar_end hx) v).1 hv
    obtain ⟨p2, h2⟩ := (bnd_pt g3 (isVar_end hx) hy v).1 p1
    have hc : (cp2 n y b z).1 = false := p2.1
    have en : ∀ i j, i < R n → j < R n → i ≠ (x + 1).toNat → j ≠ (x + 1).toNat → v i - v j ≤ p i - p j := fun i j hi hj hi2 hj2 => Int.le_trans (fg_ent hc hx p2 hi hj hi2 hj2) (Int.le_trans (cp2_mono g hy hc hi hj) (sg_ent s hi hj))
    by_cases hia : i = (x + 1).toNat
    · have a1 := en (y + 1).toNat 0 hyc.1 (by omega) hne (by omega)
      have a2 := en 0 (y + 1).toNat (by omega) hyc.1 (by omega) hne
      rw [hia, upd_at, upd_ne (by omega)]
      omega
    · rw [upd_ne hia, upd_ne (by omega)]
      exact ⟨en i 0 hi (by omega) hia (by omega), en 0 i (by omega) hi (by omega) hia⟩
theorem met_sub {n x lo hi : Int} {z : Zs} (g : Good n z) (hx : isEndP n x = true) {v : Nat → Int} (p : Pt n (metZ n x lo hi z) v) : Pt n z v := by
  by_cases h : x < 0
  · have e : metZ n x lo hi z = z := if_pos h
    rwa [e] at p
  · have hv : isVarP n x = true := by
      unfold isEndP at hx
      rw [Bool.or_eq_true] at hx
      rcases hx with h1 | h1
      · have : x = -1 := by simpa using h1
        omega
      · exact h1
    exact ((met_pt g hv v).1 p).1
theorem met_in {n x lo hi : Int} {z : Zs} (g : Good n z) (hx : isEndP n x = true) {v : Nat → Int} (p : Pt n z v) (h : 0 ≤ x → ofLo lo hi ≤ v (x + 1).toNat ∧ v (x + 1).toNat ≤ ofHi lo hi) : Pt n (metZ n x lo hi z) v := by
  by_cases h0 : x < 0
  · have e : metZ n x lo hi z = z := if_pos h0
    rwa [e]
  · have hv : isVarP n x = true := by
      unfold isEndP at hx
      rw [Bool.or_eq_true] at hx
      rcases hx with h1 | h1
      · have : x = -1 := by simpa using h1
        omega
      · exact h1
    exact (met_pt g hv v).2 ⟨p, h (by omega)⟩
theorem sg_met {n x lo hi : Int} {z : Zs} {p : Nat → Int} (s : Sg n z p) (hx : isEndP n x = true) (h : 0 ≤ x → ofLo lo hi ≤ p (x + 1).toNat ∧ p (x + 1).toNat ≤ ofHi lo hi) : Sg n (metZ n x lo hi z) p :=
  ⟨good_met s.1 _ _ _, met_in s.1 hx s.2.1 h, fun v hv => s.2.2 v (met_sub s.1 hx hv)⟩
/-- The numbers of variables, by the variable. -/
def gI (h : Nat → Int) : Int → Int := fun v => h v.toNat
theorem vz_end (h : Nat → Int) {y : Int} (hy : -1 ≤ y) : vz h (y + 1).toNat = if y = -1 then 0 else gI h y := by
  unfold vz gI
  by_cases e : y = -1
  · subst e; rfl
  · rw [if_neg (by omega), if_neg e]
    congr 1; omega
theorem pt_itvI {n : Int} {z : Zs} (g : Good n z) {h : Nat → Int} (p : Pt n z (vz h)) {v : Int} (hv : 0 ≤ v ∧ v < n) : itvLo n z.1 z.2 v ≤ gI h v ∧ gI h v ≤ itvHi n z.1 z.2 v := by
  have hx := isVar_of g.n0 hv
  have hR := R_le n
  obtain ⟨a, b, c⟩ := isVar_R hx
  obtain ⟨e1, e2⟩ := itv_exact g p.1 hx
  have t1 := p.2.2 (v + 1).toNat 0 a (by omega)
  have t2 := p.2.2 0 (v + 1).toNat (by omega) a
  have e3 := vz_end h (y := v) (by omega)
  rw [if_neg (by omega)] at e3
  have e0 : vz h 0 = 0 := rfl
  rw [e3, e0] at t1 t2
  simp only [Nat.zero_mul, Nat.zero_add, Nat.add_zero] at t1 t2
  rw [e1, e2]
  omega
theorem sg_itv {n : Int} {z : Zs} {h : Nat → Int} (s : Sg n z (vz h)) {v : Int} (hv : 0 ≤ v ∧ v < n) : prI (itD n.toNat n z) v = (gI h v, gI h v) := by
  have hx := isVar_of s.1.n0 hv
  obtain ⟨a, b, c⟩ := isVar_R hx
  have e3 := vz_end h (y := v) (by omega)
  rw [if_neg (by omega)] at e3
  have t := itv_pts s.1 hx ⟨_, s.2.1, e3⟩ ⟨_, s.2.1, e3⟩ fun w hw => by
    have := s.2.2 w hw _ a
    omega
  rw [itD_pr (by omega), t.2.1, t.2.2]
section
variable {n : Int} {z : Zs} {h : Nat → Int} (g : Good n z) (h1 : 1 ≤ n) (hg : InV n (gI h)) {e : Xp} (ht : Tm n e)
include g h1 hg ht
theorem eva_snd (p : Pt n z (vz h)) : Snd (recP (itD n.toNat n z) e) (evT (gI h) e) := by
  have h0 := g.n0
  refine rec_snd (w := n) (by rw [itD_len]; omega) (itD_rg h0 z) hg (fun v v0 v1 => ?_) ht
  rw [itD_pr (by omega)]
  exact pt_itvI g p ⟨v0, v1⟩
theorem eva_alone (s : Sg n z (vz h)) : recP (itD n.toNat n z) e = alone (evT (gI h) e) := by
  have h0 := g.n0
  exact rec_alone (w := n) (by rw [itD_len]; omega) hg (fun v v0 v1 => sg_itv s ⟨v0, v1⟩) ht
theorem asg_pt (p : Pt n z (vz h)) {x : Int} (hx : 0 ≤ x ∧ x < n) (he : (evT (gI h) e).2 = 0) : Pt n (asgZ n x e z) (upd (vz h) (x + 1).toNat (evT (gI h) e).1) := by
  have h0 := g.n0
  have vx := isVar_of h0 hx
  have sn := eva_snd g h1 hg ht p
  have rg := rec_rg (itD_rg h0 z) e
  have en := ev_in hg ht
  have ls := (lin_same h1 ht).2
  have le := @lin_ev n h1 (gI h) hg e ht
  have li := @lin_in e
  unfold asgZ evaP
  rw [if_neg (by rw [p.1]; simp)]
  generalize recP (itD n.toNat n z) e = r at *
  generalize evT (gI h) e = t at *
  have q := sn.1 he
  have nr : ¬ r.1.2 < r.1.1 := by omega
  have rr : -2147483648 ≤ r.1.1 ∧ r.1.2 ≤ 2147483647 := by rcases rg with c | c; exact absurd c nr; exact c
  have o := of_lh (a := r.1.1) (b := r.1.2) (by omega)
  unfold asgR
  rw [if_neg nr]
  generalize linP e = L at *
  rcases L with _ | ⟨y, b⟩
  · exact met_in (good_fg g x) (isVar_end vx) (pt_fg g vx p (by omega)) fun _ => by rw [o.1, o.2, upd_at]; exact q
  · have hy := ls y b rfl
    have hb := li rfl
    have ev := le rfl he
    have ye := isEnd_of (n := n) h0 (x := y) (by omega)
    have e3 := vz_end h (y := y) (by omega)
    rw [← e3] at ev
    have pc := pt_copy g vx ye hb p (by rw [← ev]; omega)
    rw [← ev] at pc
    exact met_in (good_copy g x y b) (isVar_end vx) pc fun _ => by rw [o.1, o.2, upd_at]; exact q
theorem asg_sg (s : Sg n z (vz h)) {x : Int} (hx : 0 ≤ x ∧ x < n) (he : (evT (gI h) e).2 = 0) : Sg n (asgZ n x e z) (upd (vz h) (x + 1).toNat (evT (gI h) e).1) := by
  have h0 := g.n0
  have vx := isVar_of h0 hx
  have al := eva_alone g h1 hg ht s
  have en := ev_in hg ht
  have ls := (lin_same h1 ht).2
  have le := @lin_ev n h1 (gI h) hg e ht
  have li := @lin_in e
  unfold asgZ evaP
  rw [if_neg (by rw [s.2.1.1]; simp), al]
  generalize evT (gI h) e = t at *
  have ea : (alone t).1 = (t.1, t.1) := by unfold alone; rw [if_pos he]
  have o := of_cc (c := t.1) (by omega)
  rw [ea]
  unfold asgR
  rw [if_neg (by dsimp only; omega)]
  generalize linP e = L at *
  rcases L with _ | ⟨y, b⟩
  · have := sg_set s vx (c := t.1) (by omega)
    unfold setC at this
    rw [o.1, o.2] at this
    exact this
  · have hy := ls y b rfl
    have hb := li rfl
    have ev := le rfl he
    have ye := isEnd_of (n := n) h0 (x := y) (by omega)
    have e3 := vz_end h (y := y) (by omega)
    rw [← e3] at ev
    have pc := sg_copy s vx ye hb (by rw [← ev]; omega)
    rw [← ev] at pc
    exact sg_met pc (isVar_end vx) fun _ => by dsimp only; rw [o.1, o.2, upd_at]; omega
end
theorem good_asg {n x : Int} {e : Xp} {z : Zs} (g : Good n z) : Good n (asgZ n x e z) := by
  unfold asgZ asgR
  split
  · exact good_none g.n0 true
  · split
    · exact good_met (good_copy g _ _ _) _ _ _
    · exact good_met (good_fg g _) _ _ _
end Go.Proofs.Ytbcbcambkjhhhaa.Sx.Z
