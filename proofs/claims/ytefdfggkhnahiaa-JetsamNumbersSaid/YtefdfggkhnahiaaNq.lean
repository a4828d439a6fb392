/-
  What points tell of the Nums: their numbers, and what is within what.
-/
import Derived.Test.YtefdfggkhnahiaaNe
namespace Go.Proofs.Ytefdfggkhnahiaa.Sx.Z
open Go.RowKit
theorem met_pt {n x lo hi : Int} {z : Zs} (h : Good n z) (hx : isVarP n x = true) (v : Nat → Int) : Pt n (metZ n x lo hi z) v ↔ Pt n z v ∧ ofLo lo hi ≤ v (x + 1).toNat ∧ v (x + 1).toNat ≤ ofHi lo hi := by
  have hv := isVarP_lt hx
  have e : metZ n x lo hi z = bndZ n (-1) x (0 - ofLo lo hi) (bndZ n x (-1) (ofHi lo hi) z) := if_neg (by omega)
  have q0 : ((-1 : Int) + 1).toNat = 0 := rfl
  rw [e, bnd_pt (good_bnd h _ _ _) (isEnd_nought n) (isVar_end hx), bnd_pt h (isVar_end hx) (isEnd_nought n), q0]
  constructor
  · rintro ⟨⟨p, h1⟩, h2⟩
    have := p.2.1
    exact ⟨p, by omega, by omega⟩
  · rintro ⟨p, h1, h2⟩
    have := p.2.1
    exact ⟨⟨p, by omega⟩, by omega⟩
theorem itv_pts {n x a b : Int} {z : Zs} (g : Good n z) (hx : isVarP n x = true) (va : ∃ v, Pt n z v ∧ v (x + 1).toNat = a) (vb : ∃ v, Pt n z v ∧ v (x + 1).toNat = b) (all : ∀ v, Pt n z v → a ≤ v (x + 1).toNat ∧ v (x + 1).toNat ≤ b) : z.1 = false ∧ itvLo n z.1 z.2 x = a ∧ itvHi n z.1 z.2 x = b := by
  have hR := R_le n
  obtain ⟨ha, hax, ha1⟩ := isVar_R hx
  obtain ⟨v, pv, ev⟩ := va
  obtain ⟨w, pw, ew⟩ := vb
  obtain ⟨e1, e2⟩ := itv_exact g pv.1 hx
  have d0 := g.diag 0 (by omega)
  have t1 := (all _ (pt_at g pv.1 (j := 0) (by omega))).2
  have t2 := (all _ (pt_at g pv.1 (j := (x + 1).toNat) ha)).1
  have d1 := g.diag _ ha
  have t3 := pw.2.2 _ 0 ha (by omega)
  have t4 := pv.2.2 0 _ (by omega) ha
  have z1 := pv.2.1
  have z2 := pw.2.1
  simp only [Nat.zero_mul, Nat.zero_add, Nat.add_zero] at d0 t1 t2 t3 t4
  rw [e1, e2]
  exact ⟨pv.1, by omega, by omega⟩
theorem within_pts {n : Int} {z w : Zs} (g : Good n z) (h : ∀ v, Pt n z v → Pt n w v) : withinP n z.1 z.2 n w.1 w.2 = true := by
  refine wi_iff.2 ?_
  cases hz : z.1 with
  | true => exact .inl hz
  | false =>
    obtain ⟨h1, h2⟩ := good_le g h hz
    exact .inr ⟨h1, hz, h2⟩
theorem pt_itv {n x : Int} {z : Zs} (g : Good n z) (hx : isVarP n x = true) {v : Nat → Int} (p : Pt n z v) : itvLo n z.1 z.2 x ≤ v (x + 1).toNat ∧ v (x + 1).toNat ≤ itvHi n z.1 z.2 x := by
  have hR := R_le n
  obtain ⟨ha, hax, ha1⟩ := isVar_R hx
  obtain ⟨e1, e2⟩ := itv_exact g p.1 hx
  have t3 := p.2.2 _ 0 ha (by omega)
  have t4 := p.2.2 0 _ (by omega) ha
  have z1 := p.2.1
  simp only [Nat.zero_mul, Nat.zero_add, Nat.add_zero] at t3 t4
  rw [e1, e2]
  exact ⟨by omega, by omega⟩
/-- A point is had. -/
theorem nhas_pt {n : Int} {z : Zs} (g : Good n z) {h : Nat → Int} (p : Pt n z (vz h)) {v : D} (hv : v.rows = (rowI n.toNat h).rows) : nhasP z.1 (itD n.toNat n z) n z.1 z.2 v = true := by
  have h0 := g.n0
  have hl : v.len = n.toNat := by rw [len_rows hv, rowI_len]
  have hL := itD_len n.toNat n z
  unfold nhasP
  rw [if_neg (by rw [p.1, hl, hL]; simp), Bool.and_eq_true]
  constructor
  · refine allJ_iff.2 fun j hj => ?_
    rw [hL] at hj
    obtain ⟨e1, e2⟩ := itD_el hj n z
    have hx : isVarP n (j : Int) = true := isVar_of h0 (by omega)
    obtain ⟨t1, t2⟩ := pt_itv g hx p
    have ev : (v.el j 0).toI = h j := by
      have := congrFun (ig_rows hv) j
      rw [ig_rowI _ _ hj] at this; exact this
    have ez : vz h ((j : Int) + 1).toNat = h j := by
      unfold vz
      rw [if_neg (by omega), show ((j : Int) + 1).toNat - 1 = j by omega]
    rw [ez] at t1 t2
    unfold hasJ
    rw [e1, e2, ev, Bool.and_eq_true]
    exact ⟨decide_eq_true t1, decide_eq_true t2⟩
  · rw [hl, ig_rows hv, has_congr fun q hq => ig_rowI n.toNat h hq]
    exact has_pt g (by omega) p
theorem nhas_len {c : Bool} {I : D} {n : Int} {e : Bool} {f : Nat → Int} {v : D} (h : v.len ≠ I.len) : nhasP c I n e f v = false := if_pos (by
  have : ((v.len : Int) != I.len) = true := by rw [bne_iff_ne]; omega
  rw [this, Bool.or_true])
theorem top_pt {n : Int} (v : Nat → Int) : Pt (topN n) (false, topF n) v ↔ v 0 = 0 ∧ ∀ i, i < R (topN n) → -2147483648 ≤ v i ∧ v i ≤ 2147483647 :=
  ⟨fun p => ⟨p.2.1, fun _ hi => pt_range (good_top n) p hi⟩, fun h => pt_top h.1 h.2⟩
theorem R2 : R 2 = 3 := by kernel_rfl
theorem R3 : R 3 = 4 := by kernel_rfl
theorem R4 : R 4 = 5 := by kernel_rfl
theorem T2 : topN 2 = 2 := rfl
theorem T3 : topN 3 = 3 := rfl
theorem T4 : topN 4 = 4 := rfl
/-- Numbers of 32 bits. -/
def In32 (v : Nat → Int) : Prop := v 0 = 0 ∧ (-2147483648 ≤ v 1 ∧ v 1 ≤ 2147483647) ∧ (-2147483648 ≤ v 2 ∧ v 2 ≤ 2147483647)
theorem top2_pt (v : Nat → Int) : Pt 2 (false, topF 2) v ↔ In32 v := by
  have h := top_pt (n := 2) v
  rw [T2, R2] at h
  rw [h]
  constructor
  · rintro ⟨h0, h1⟩
    exact ⟨h0, h1 1 (by omega), h1 2 (by omega)⟩
  · rintro ⟨h0, h1, h2⟩
    refine ⟨h0, fun i hi => ?_⟩
    have : i = 0 ∨ i = 1 ∨ i = 2 := by omega
    rcases this with rfl | rfl | rfl
    · omega
    · exact h1
    · exact h2
theorem top2_good : Good 2 (false, topF 2) := by have := good_top 2; rwa [T2] at this
theorem copy2_pt {d : Int} (hd : -999 ≤ d ∧ d ≤ 999) (v : Nat → Int) : Pt 2 (copyZ 2 0 1 d (false, topF 2)) v ↔ In32 v ∧ v 1 = v 2 + d := by
  have hx : isVarP 2 0 = true := rfl
  have hy : isEndP 2 1 = true := rfl
  have g := top2_good
  have gc := good_copy g 0 1 d
  constructor
  · intro p
    have r1 := pt_range gc p (i := 1) (by rw [R2]; omega)
    have r2 := pt_range gc p (i := 2) (by rw [R2]; omega)
    have e : copyZ 2 0 1 d (false, topF 2) = bndZ 2 1 0 (0 - d) (bndZ 2 0 1 d (fgZ 2 0 (cp2 2 1 d (false, topF 2)))) := by
      unfold copyZ
      rw [if_neg (by rw [hx, hy]; simp), if_neg (by
        simp only [Bool.or_eq_true, decide_eq_true_eq]; omega), if_neg (by simp)]
    rw [e] at p
    have g2 := good_fg (cp2_good g 1 d) 0
    obtain ⟨p1, h1⟩ := (bnd_pt (good_bnd g2 _ _ _) hy (isVar_end hx) v).1 p
    obtain ⟨p2, h2⟩ := (bnd_pt g2 (isVar_end hx) hy v).1 p1
    have q1 : ((1 : Int) + 1).toNat = 2 := rfl
    have q2 : ((0 : Int) + 1).toNat = 1 := rfl
    rw [q1, q2] at h1 h2
    exact ⟨⟨p.2.1, r1, r2⟩, by omega⟩
  · rintro ⟨h, e⟩
    have p := pt_copy g hx hy (b := d) (by omega) ((top2_pt v).2 h) (by
      have : ((1 : Int) + 1).toNat = 2 := rfl
      rw [this]
      have := h.2.1
      omega)
    have q1 : ((1 : Int) + 1).toNat = 2 := rfl
    have q2 : ((0 : Int) + 1).toNat = 1 := rfl
    rw [q1, q2, ← e] at p
    have : upd v 1 (v 1) = v := by
      funext q
      by_cases h : q = 1
      · rw [h, upd_at]
      · rw [upd_ne h]
    rwa [this] at p
end Go.Proofs.Ytefdfggkhnahiaa.Sx.Z
