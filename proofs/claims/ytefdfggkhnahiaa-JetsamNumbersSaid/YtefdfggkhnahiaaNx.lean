/-
  JetsamNumbers' contract, for whatever words are read.
-/
import Derived.Test.YtefdfggkhnahiaaNr
import Derived.Test.YtefdfggkhnahiaaNk
namespace Go.Proofs.Ytefdfggkhnahiaa.Sx.Z
open Go.RowKit
theorem ent_le {n : Int} {z : Zs} (g : Good n z) (hz : z.1 = false) {i j : Nat} (hi : i < R n) (hj : j < R n) {c : Int} (h : ∀ v, Pt n z v → v i - v j ≤ c) : z.2 (i * 7 + j) ≤ c := by
  have p := h _ (pt_at g hz hj)
  have d := g.diag j hj
  omega
theorem fg_ent {n x : Int} {z : Zs} (hz : z.1 = false) (hx : isVarP n x = true) {v : Nat → Int} (p : Pt n (fgZ n x z) v) {i j : Nat} (hi : i < R n) (hj : j < R n) (hi2 : i ≠ (x + 1).toNat) (hj2 : j ≠ (x + 1).toNat) : v i - v j ≤ z.2 (i * 7 + j) := by
  have hR := R_le n
  have t := p.2.2 i j hi hj
  rw [fg_false hz hx] at t
  dsimp only at t
  rwa [fg_at hi hj hR.2.1, if_neg (by omega), if_neg (by omega)] at t
theorem copy_out {n x y b : Int} {z : Zs} (g : Good n z) (hx : isVarP n x = true) (hy : isEndP n y = true) (hxy : x ≠ y) (hb : -1099511627776 ≤ b ∧ b ≤ 1099511627776) {v : Nat → Int} (p : Pt n (copyZ n x y b z) v) : v (x + 1).toNat = v (y + 1).toNat + b ∧ ∀ i j, i < R n → j < R n → i ≠ (x + 1).toNat → j ≠ (x + 1).toNat → v i - v j ≤ z.2 (i * 7 + j) := by
  have hz : z.1 = false := by
    cases hz : z.1 with
    | false => rfl
    | true =>
      have e : copyZ n x y b z = z := by unfold copyZ; rw [if_pos (by rw [hz]; rfl)]
      rw [e] at p
      exact hz.symm.trans p.1
  have e : copyZ n x y b z = bndZ n y x (0 - b) (bndZ n x y b (fgZ n x (cp2 n y b z))) := by
    unfold copyZ
    rw [if_neg (by rw [hz, hx, hy]; simp), if_neg (by simp only [Bool.or_eq_true, decide_eq_true_eq]; omega), if_neg (by simpa using hxy)]
  rw [e] at p
  have gc := cp2_good g y b
  have g2 := good_fg gc x
  obtain ⟨p1, h1⟩ := (bnd_pt (good_bnd g2 _ _ _) hy (isVar_end hx) v).1 p
  obtain ⟨p2, h2⟩ := (bnd_pt g2 (isVar_end hx) hy v).1 p1
  have hc : (cp2 n y b z).1 = false := p2.1
  refine ⟨by omega, fun i j hi hj hi2 hj2 => ?_⟩
  have t1 := fg_ent hc hx p2 hi hj hi2 hj2
  have t2 := cp2_mono g hy hc hi hj
  omega
/-- Numbers of 32 bits. -/
def In33 (v : Nat → Int) : Prop := v 0 = 0 ∧ (-2147483648 ≤ v 1 ∧ v 1 ≤ 2147483647) ∧ (-2147483648 ≤ v 2 ∧ v 2 ≤ 2147483647) ∧ (-2147483648 ≤ v 3 ∧ v 3 ≤ 2147483647)
theorem in33 {z : Zs} (g : Good 3 z) {v : Nat → Int} (p : Pt 3 z v) : In33 v := ⟨p.2.1, pt_range g p (by rw [R3]; omega), pt_range g p (by rw [R3]; omega), pt_range g p (by rw [R3]; omega)⟩
theorem top3_pt {v : Nat → Int} (h : In33 v) : Pt 3 (false, topF 3) v := by
  refine (top_pt (n := 3) v).2 ⟨h.1, fun i hi => ?_⟩
  rw [T3, R3] at hi
  have : i = 0 ∨ i = 1 ∨ i = 2 ∨ i = 3 := by omega
  have := h.1
  obtain ⟨_, h1, h2, h3⟩ := h
  rcases ‹i = 0 ∨ _› with rfl | rfl | rfl | rfl
  · omega
  · exact h1
  · exact h2
  · exact h3
theorem top3_good : Good 3 (false, topF 3) := by have := good_top 3; rwa [T3] at this
theorem upd_same (v : Nat → Int) (a : Nat) : upd v a (v a) = v := by
  funext q
  by_cases h : q = a
  · rw [h, upd_at]
  · rw [upd_ne h]
def A1 (l h : Int) : Zs := metZ 3 0 l h (fgZ 3 0 (false, topF 3))
def A2 (l h d : Int) : Zs := copyZ 3 1 0 d (A1 l h)
def A3 (l h d e : Int) : Zs := copyZ 3 2 1 e (A2 l h d)
theorem A1_good (l h : Int) : Good 3 (A1 l h) := good_met (good_fg top3_good 0) _ _ _
theorem A2_good (l h d : Int) : Good 3 (A2 l h d) := good_copy (A1_good l h) _ _ _
theorem A3_good (l h d e : Int) : Good 3 (A3 l h d e) := good_copy (A2_good l h d) _ _ _
theorem A1_pt {l h : Int} (hl : -2147483648 ≤ l ∧ l ≤ h ∧ h ≤ 2147483647) (v : Nat → Int) : Pt 3 (A1 l h) v ↔ In33 v ∧ l ≤ v 1 ∧ v 1 ≤ h := by
  have e := of_lh hl
  have m := met_pt (lo := l) (hi := h) (good_fg top3_good 0) (show isVarP 3 0 = true from rfl) v
  rw [e.1, e.2] at m
  unfold A1
  rw [m]
  constructor
  · rintro ⟨p, q⟩
    exact ⟨in33 (good_fg top3_good 0) p, q⟩
  · rintro ⟨p, q⟩
    have := pt_fg top3_good (x := 0) rfl (top3_pt p) (b := v 1) p.2.1
    rw [show ((0 : Int) + 1).toNat = 1 from rfl, upd_same] at this
    exact ⟨this, q⟩
theorem A1_some {l h : Int} (hl : -2147483648 ≤ l ∧ l ≤ h ∧ h ≤ 2147483647) : (A1 l h).1 = false :=
  ((A1_pt hl (fun q => if q = 1 then l else 0)).2 ⟨⟨rfl, ⟨by show _ ≤ l; omega, by show l ≤ _; omega⟩, ⟨by show _ ≤ (0 : Int); omega, by show (0 : Int) ≤ _; omega⟩, ⟨by show _ ≤ (0 : Int); omega, by show (0 : Int) ≤ _; omega⟩⟩, Int.le_refl _, hl.2.1⟩).1
theorem A2_pt {l h d : Int} (hl : -99999 ≤ l ∧ l ≤ h ∧ h ≤ 100999) (hd : -32768 ≤ d ∧ d ≤ 32767) (v : Nat → Int) : Pt 3 (A2 l h d) v ↔ In33 v ∧ (l ≤ v 1 ∧ v 1 ≤ h) ∧ v 2 = v 1 + d := by
  have hl' : -2147483648 ≤ l ∧ l ≤ h ∧ h ≤ 2147483647 := by omega
  have q1 : ((1 : Int) + 1).toNat = 2 := rfl
  have q0 : ((0 : Int) + 1).toNat = 1 := rfl
  constructor
  · intro p
    obtain ⟨h1, h2⟩ := copy_out (A1_good l h) (x := 1) (y := 0) rfl rfl (by omega) (by omega) p
    rw [q1, q0] at h1
    have i := in33 (A2_good l h d) p
    have hz := A1_some hl'
    have u1 := ent_le (A1_good l h) hz (i := 1) (j := 0) (by rw [R3]; omega) (by rw [R3]; omega) (c := h) (fun v hv => by have := (A1_pt hl' v).1 hv; have := hv.2.1; omega)
    have u2 := ent_le (A1_good l h) hz (i := 0) (j := 1) (by rw [R3]; omega) (by rw [R3]; omega) (c := 0 - l) (fun v hv => by have := (A1_pt hl' v).1 hv; have := hv.2.1; omega)
    have t1 := h2 1 0 (by rw [R3]; omega) (by rw [R3]; omega) (by rw [q1]; omega) (by rw [q1]; omega)
    have t2 := h2 0 1 (by rw [R3]; omega) (by rw [R3]; omega) (by rw [q1]; omega) (by rw [q1]; omega)
    have := i.1
    exact ⟨i, ⟨by omega, by omega⟩, h1⟩
  · rintro ⟨i, h1, h2⟩
    have p := pt_copy (A1_good l h) (x := 1) (y := 0) (b := d) rfl rfl (by omega) ((A1_pt hl' v).2 ⟨i, h1⟩) (by rw [q0]; omega)
    rw [q1, q0, ← h2, upd_same] at p
    exact p
theorem A2_some {l h d : Int} (hl : -99999 ≤ l ∧ l ≤ h ∧ h ≤ 100999) (hd : -32768 ≤ d ∧ d ≤ 32767) : (A2 l h d).1 = false :=
  ((A2_pt hl hd (fun q => if q = 1 then l else if q = 2 then l + d else 0)).2 ⟨⟨rfl, ⟨by show _ ≤ l; omega, by show l ≤ _; omega⟩, ⟨by show _ ≤ l + d; omega, by show l + d ≤ _; omega⟩, ⟨by show _ ≤ (0 : Int); omega, by show (0 : Int) ≤ _; omega⟩⟩, ⟨Int.le_refl _, hl.2.1⟩, rfl⟩).1
theorem A3_pt {l h d e : Int} (hl : -99999 ≤ l ∧ l ≤ h ∧ h ≤ 100999) (hd : -32768 ≤ d ∧ d ≤ 32767) (he : -32768 ≤ e ∧ e ≤ 32767) (v : Nat → Int) : Pt 3 (A3 l h d e) v ↔ In33 v ∧ (l ≤ v 1 ∧ v 1 ≤ h) ∧ v 2 = v 1 + d ∧ v 3 = v 2 + e := by
  have q2 : ((2 : Int) + 1).toNat = 3 := rfl
  have q1 : ((1 : Int) + 1).toNat = 2 := rfl
  constructor
  · intro p
    obtain ⟨h1, h2⟩ := copy_out (A2_good l h d) (x := 2) (y := 1) rfl rfl (by omega) (by omega) p
    rw [q2, q1] at h1
    have i := in33 (A3_good l h d e) p
    have hz := A2_some hl hd
    have u := fun i j (hi : i < 3) (hj : j < 3) c (hc : ∀ v, Pt 3 (A2 l h d) v → v i - v j ≤ c) => Int.le_trans (h2 i j (by rw [R3]; omega) (by rw [R3]; omega) (by rw [q2]; omega) (by rw [q2]; omega)) (ent_le (A2_good l h d) hz (i := i) (j := j) (by rw [R3]; omega) (by rw [R3]; omega) (c := c) hc)
    have u1 := u 1 0 (by omega) (by omega) h (fun v hv => by have := (A2_pt hl hd v).1 hv; have := hv.2.1; omega)
    have u2 := u 0 1 (by omega) (by omega) (0 - l) (fun v hv => by have := (A2_pt hl hd v).1 hv; have := hv.2.1; omega)
    have u3 := u 2 1 (by omega) (by omega) d (fun v hv => by have := (A2_pt hl hd v).1 hv; omega)
    have u4 := u 1 2 (by omega) (by omega) (0 - d) (fun v hv => by have := (A2_pt hl hd v).1 hv; omega)
    have := i.1
    exact ⟨i, ⟨by omega, by omega⟩, by omega, h1⟩
  · rintro ⟨i, h1, h2, h3⟩
    have p := pt_copy (A2_good l h d) (x := 2) (y := 1) (b := e) rfl rfl (by omega) ((A2_pt hl hd v).2 ⟨i, h1, h2⟩) (by rw [q1]; omega)
    rw [q2, q1, ← h3, upd_same] at p
    exact p
theorem has_no {n : Int} {z : Zs} {l : Nat} (h0 : 0 ≤ n ∧ n ≤ 6) (hl : (l : Int) = n) {g : Nat → Int} {i j : Nat} (hi : i < R n) (hj : j < R n) (r : -1099511627776 ≤ vz g i - vz g j ∧ vz g i - vz g j ≤ 1099511627776) (hb : z.2 (i * 7 + j) < vz g i - vz g j) : hasP n z.1 z.2 l g = false := by
  have hR := R_le n
  have hrn := rows_n h0
  cases e : hasP n z.1 z.2 l g with
  | false => rfl
  | true =>
    exfalso
    unfold hasP at e
    split at e
    · cases e
    · have hR' : (rowsP n).toNat = R n := rfl
      rw [hR'] at e
      have hv : ∀ q, q < R n → hv l g q = vz g q := fun q hq => by
        unfold hv cpF vz
        have hm : Nat.min l 6 = l := Nat.min_eq_left (by omega)
        rw [hm]
        by_cases h0 : q = 0
        · rw [if_pos h0, if_neg (by simp only [Bool.and_eq_true, Nat.ble_eq, Nat.blt_eq]; omega)]
        · rw [if_neg h0, if_pos (by simp only [Bool.and_eq_true, Nat.ble_eq, Nat.blt_eq]; omega)]
      have d1 : (i * 7 + j) / 7 = i := by omega
      have d2 : (i * 7 + j) % 7 = j := by omega
      have := allB_iff.1 e (i * 7 + j) (by omega) (by rw [d1, d2]; exact ⟨hi, hj⟩)
      unfold hasQ at this
      rw [d1, d2, hv _ hi, hv _ hj, wr _ (by omega)] at this
      simp only [Bool.and_eq_true, decide_eq_true_eq] at this
      omega
def g3 (a b c : Int) : Nat → Int := fun j => if j = 0 then a else if j = 1 then b else c
theorem g3_in {a b c : Int} (ha : -2147483648 ≤ a ∧ a ≤ 2147483647) (hb : -2147483648 ≤ b ∧ b ≤ 2147483647) (hc : -2147483648 ≤ c ∧ c ≤ 2147483647) : In33 (vz (g3 a b c)) := ⟨rfl, ha, hb, hc⟩
def standsS : FSpec := fun ds _ => match ds with
  | [] => some { val := .one (.sc (.bool (.sym true))), vc := [] }
  | _ => none
def standsC : Con := con [] standsS
def B4 (l h d e : Int) : Zs := metZ 3 2 (h + d + e) (h + d + e) (A3 l h d e)
theorem jet_facts {l h d e : Int} (hl : -99999 ≤ l ∧ l ≤ 99999) (hd : -32768 ≤ d ∧ d ≤ 32767) (he : -32768 ≤ e ∧ e ≤ 32767) (hh : l ≤ h ∧ h ≤ l + 255) :
    Good 3 (A3 l h d e) ∧ Good 3 (B4 l h d e) ∧ nrightP (A3 l h d e).1 (itD 3 3 (A3 l h d e)) 3 (A3 l h d e).1 (A3 l h d e).2 = true ∧ nrightP (B4 l h d e).1 (itD 3 3 (B4 l h d e)) 3 (B4 l h d e).1 (B4 l h d e).2 = true ∧
    withinP 3 (B4 l h d e).1 (B4 l h d e).2 3 (A3 l h d e).1 (A3 l h d e).2 = true ∧ nhasP (A3 l h d e).1 (itD 3 3 (A3 l h d e)) 3 (A3 l h d e).1 (A3 l h d e).2 ((D.l [[D.i l], [D.i (l + d)], [D.i (l + d + e)]]).sub 0 3) = true ∧
    nhasP (A3 l h d e).1 (itD 3 3 (A3 l h d e)) 3 (A3 l h d e).1 (A3 l h d e).2 ((D.l [[D.i l], [D.i (l + d)], [D.i (l + d + e + 1)]]).sub 0 3) = false ∧
    itvLo 3 (A3 l h d e).1 (A3 l h d e).2 ((2 : Nat) : Int) = l + d + e ∧ itvHi 3 (A3 l h d e).1 (A3 l h d e).2 ((2 : Nat) : Int) = h + d + e ∧ itvLo 3 (B4 l h d e).1 (B4 l h d e).2 ((0 : Nat) : Int) = h ∧ itvHi 3 (B4 l h d e).1 (B4 l h d e).2 ((0 : Nat) : Int) = h ∧
    ∀ i : Nat, i < 3 → itvLo 3 (B4 l h d e).1 (B4 l h d e).2 i = itvHi 3 (B4 l h d e).1 (B4 l h d e).2 i := by
  have hlh : -2147483648 ≤ l ∧ l ≤ h ∧ h ≤ 2147483647 := by omega
  have o2 := of_lh (a := h + d + e) (b := h + d + e) (by omega)
  have hA := A3_pt (l := l) (h := h) (d := d) (e := e) (by omega) hd he
  have gA := A3_good l h d e
  have gB : Good 3 (B4 l h d e) := good_met gA 2 _ _
  have hB : ∀ v, Pt 3 (B4 l h d e) v ↔ Pt 3 (A3 l h d e) v ∧ v 3 = h + d + e := fun v => by
    have m := met_pt (lo := h + d + e) (hi := h + d + e) gA (show isVarP 3 2 = true from rfl) v
    rw [o2.1, o2.2] at m
    unfold B4
    rw [m, show ((2 : Int) + 1).toNat = 3 from rfl]
    exact ⟨fun x => ⟨x.1, by omega⟩, fun x => ⟨x.1, by omega⟩⟩
  generalize A3 l h d e = a at *
  generalize B4 l h d e = b at *
  have mkA := fun x (hx : l ≤ x ∧ x ≤ h) => (hA (vz (g3 x (x + d) (x + d + e)))).2 ⟨g3_in (by omega) (by omega) (by omega), hx, rfl, rfl⟩
  have mkB := (hB _).2 ⟨mkA h (by omega), rfl⟩
  have outB : ∀ v, Pt 3 b v → v 1 = h ∧ v 2 = h + d ∧ v 3 = h + d + e := fun v hv => by
    obtain ⟨p, h3⟩ := (hB v).1 hv
    have := (hA v).1 p
    omega
  have iA := itv_pts (x := 2) (a := l + d + e) (b := h + d + e) gA rfl ⟨_, mkA l (by omega), rfl⟩ ⟨_, mkA h (by omega), rfl⟩ (fun v hv => by
    have := (hA v).1 hv
    show l + d + e ≤ v 3 ∧ v 3 ≤ h + d + e
    omega)
  have iB0 := itv_pts (x := 0) (a := h) (b := h) gB rfl ⟨_, mkB, rfl⟩ ⟨_, mkB, rfl⟩ (fun v hv => by
    have := outB v hv
    show h ≤ v 1 ∧ v 1 ≤ h
    omega)
  have iB1 := itv_pts (x := 1) (a := h + d) (b := h + d) gB rfl ⟨_, mkB, rfl⟩ ⟨_, mkB, rfl⟩ (fun v hv => by
    have := outB v hv
    show h + d ≤ v 2 ∧ v 2 ≤ h + d
    omega)
  have iB2 := itv_pts (x := 2) (a := h + d + e) (b := h + d + e) gB rfl ⟨_, mkB, rfl⟩ ⟨_, mkB, rfl⟩ (fun v hv => by
    have := outB v hv
    show h + d + e ≤ v 3 ∧ v 3 ≤ h + d + e
    omega)
  have rA : nrightP a.1 (itD 3 3 a) 3 a.1 a.2 = true := itD_right gA
  have rB : nrightP b.1 (itD 3 3 b) 3 b.1 b.2 = true := itD_right gB
  have wBA := within_pts gB (fun v hv => ((hB v).1 hv).1)
  have nA : nhasP a.1 (itD 3 3 a) 3 a.1 a.2 ((D.l [[D.i l], [D.i (l + d)], [D.i (l + d + e)]]).sub 0 3) = true := nhas_pt gA (mkA l (by omega)) rfl
  have nB : nhasP a.1 (itD 3 3 a) 3 a.1 a.2 ((D.l [[D.i l], [D.i (l + d)], [D.i (l + d + e + 1)]]).sub 0 3) = false := by
    have u := ent_le gA (mkA l (by omega)).1 (i := 3) (j := 2) (by rw [R3]; omega) (by rw [R3]; omega) (c := e) (fun v hv => by have := (hA v).1 hv; omega)
    have hn := has_no (z := a) (l := 3) (n := 3) (by omega) rfl (g := g3 l (l + d) (l + d + e + 1)) (i := 3) (j := 2) (by rw [R3]; omega) (by rw [R3]; omega) (by show _ ≤ (l + d + e + 1) - (l + d) ∧ (l + d + e + 1) - (l + d) ≤ _; omega) (by show _ < (l + d + e + 1) - (l + d); omega)
    have hr : ((D.l [[D.i l], [D.i (l + d)], [D.i (l + d + e + 1)]]).sub 0 3).rows = (rowI 3 (g3 l (l + d) (l + d + e + 1))).rows := rfl
    unfold nhasP
    split
    · rfl
    · rw [len_rows hr, rowI_len, ig_rows hr, has_congr fun q hq => ig_rowI 3 _ hq, hn, Bool.and_false]
  have i1 : itvLo 3 a.1 a.2 ((2 : Nat) : Int) = l + d + e := iA.2.1
  have i2 : itvHi 3 a.1 a.2 ((2 : Nat) : Int) = h + d + e := iA.2.2
  have i3 : itvLo 3 b.1 b.2 ((0 : Nat) : Int) = h := iB0.2.1
  have i4 : itvHi 3 b.1 b.2 ((0 : Nat) : Int) = h := iB0.2.2
  refine ⟨gA, gB, rA, rB, wBA, nA, nB, i1, i2, i3, i4, fun i hi => ?_⟩
  have : i = 0 ∨ i = 1 ∨ i = 2 := by omega
  rcases this with rfl | rfl | rfl
  · exact iB0.2.1.trans iB0.2.2.symm
  · exact iB1.2.1.trans iB1.2.2.symm
  · exact iB2.2.1.trans iB2.2.2.symm
def njetS : FSpec := fun ds _ => match ds with
  | [.i lo, .i sz, .f g] => some { val := .one (.sc (.bool (.sym (true)))), vc := [(-2147483648 ≤ lo ∧ lo ≤ 2147483647), (0 ≤ sz ∧ sz ≤ 255), ∀ o, o < 2 → -32768 ≤ g o ∧ g o ≤ 32767] }
  | _ => none
def njetC : Con := con [.sc (.int .i32), .sc (.int .u8), .agg [.ints .i16 2]] njetS
theorem njet_ok (stands_ok : ConOK Try.prog 37 standsC) : ConOK Try.prog 10 njetC := by
  refine fn_ob tt_ok mixed Try.func10 rfl (fun _ _ => by kernel_rfl) (A := fun ds => ⟨fun _ => Cons.of [(11, ntopC), (29, iofC), (28, nsetC), (31, ncopyC), (30, nmeetC), (37, standsC), (34, nrightC), (38, zitvC), (35, iconstC), (24, nwithinC), (33, nhasC)], fun k => match k, ds with | 10, [.i lo, .i sz, .f g] => some { ι := Nat, pre := fun _ i => i ≤ 3, μ := fun i => 9 - i, st := fun s i => famR s [(13, .one (.sc (.int .i64 (.sym ((i : Nat))))))] [7, 8, 9, 10, 11, 12] [] [11, 12] } | _, _ => none, fun k => match k, ds with | 3, [.i lo, .i sz, .f g] => some { ι := Int × Int × Int × Int, pre := fun _ q => (-99999 ≤ q.1 ∧ q.1 ≤ 99999) ∧ (-32768 ≤ q.2.1 ∧ q.2.1 ≤ 32767) ∧ (-32768 ≤ q.2.2.1 ∧ q.2.2.1 ≤ 32767) ∧ (q.1 ≤ q.2.2.2 ∧ q.2.2.2 ≤ q.1 + 255), μ := fun _ => 0, st := fun s q => famR s [(7, .one (.sc (.int .i64 (.sym (q.1))))), (8, .one (.sc (.int .i64 (.sym (q.2.1))))), (9, .one (.sc (.int .i64 (.sym (q.2.2.1))))), (10, .one (.sc (.int .i64 (.sym (q.2.2.2)))))] [] [] [] } | 7, [.i lo, .i sz, .f g] => some { ι := Bool, pre := fun _ _ => True, μ := fun _ => 0, st := fun s _ => famR s [(11, .one (.sc (.ptr (idOf s 11) (.lit 0)))), (12, .one (.sc (.ptr (s.nx - 1) (.lit 0))))] [7, 8, 9, 10] [(idOf s 11, .own 30 ([.c (.bool (.sym (A3 (slotI s 7) (slotI s 10) (slotI s 8) (slotI s 9) : Zs).1)), .c (.rows 53 (itD 3 3 (A3 (slotI s 7) (slotI s 10) (slotI s 8) (slotI s 9)))), .c (.int .i64 (.sym 3)), .c (.bool (.sym (A3 (slotI s 7) (slotI s 10) (slotI s 8) (slotI s 9) : Zs).1)), .ints .i64 (.lit 49) (A3 (slotI s 7) (slotI s 10) (slotI s 8) (slotI s 9) : Zs).2])), (s.nx - 1, .own 30 ([.c (.bool (.sym (B4 (slotI s 7) (slotI s 10) (slotI s 8) (slotI s 9) : Zs).1)), .c (.rows 53 (itD 3 3 (B4 (slotI s 7) (slotI s 10) (slotI s 8) (slotI s 9)))), .c (.int .i64 (.sym 3)), .c (.bool (.sym (B4 (slotI s 7) (slotI s 10) (slotI s 8) (slotI s 9) : Zs).1)), .ints .i64 (.lit 49) (B4 (slotI s 7) (slotI s 10) (slotI s 8) (slotI s 9) : Zs).2]))] [] } | _, _ => none⟩) (fun _ _ => (cons_cons ntop_ok (cons_cons iof_ok (cons_cons nset_ok (cons_cons ncopy_ok (cons_cons nmeet_ok (cons_cons stands_ok (cons_cons nright_ok (cons_cons zitv_ok (cons_cons iconst_ok (cons_cons nwithin_ok (cons_cons nhas_ok cons_nil)))))))))))) (by kernel_rfl) ?_
  intro ds fr
  unfold njetS
  split
  · rename_i lo sz g
    refine kmp (q := (-2147483648 : Int) ≤ lo ∧ lo ≤ (2147483647 : Int) →
 (0 : Int) ≤ sz ∧ sz ≤ (255 : Int) →
 (∀ (o : Nat), o < (2 : Nat) → (-32768 : Int) ≤ g o ∧ g o ≤ (32767 : Int)) →
 (∃ (i : Int × Int × Int × Int),
 (((-99999 : Int) ≤ i.fst ∧ i.fst ≤ (99999 : Int)) ∧
 ((-32768 : Int) ≤ i.snd.fst ∧ i.snd.fst ≤ (32767 : Int)) ∧
 ((-32768 : Int) ≤ i.snd.snd.fst ∧ i.snd.snd.fst ≤ (32767 : Int)) ∧ i.fst ≤ i.snd.snd.snd ∧ i.snd.snd.snd ≤ i.fst + (255 : Int)) ∧
 (IntKind.i64.wrap lo).tmod (100000 : Int) = i.fst ∧
 IntKind.i64.wrap (g (nat_lit 0 + nat_lit 0 * (1 : Nat))) = i.snd.fst ∧
 IntKind.i64.wrap (g (nat_lit 0 + nat_lit 1 * (1 : Nat))) = i.snd.snd.fst ∧
 IntKind.i64.wrap ((IntKind.i64.wrap lo).tmod (100000 : Int) + IntKind.i64.wrap sz) = i.snd.snd.snd) ∧
 ∀ (i : Int × Int × Int × Int),
 ((-99999 : Int) ≤ i.fst ∧ i.fst ≤ (99999 : Int)) ∧
 ((-32768 : Int) ≤ i.snd.fst ∧ i.snd.fst ≤ (32767 : Int)) ∧
 ((-32768 : Int) ≤ i.snd.snd.fst ∧ i.snd.snd.fst ≤ (32767 : Int)) ∧ i.fst ≤ i.snd.snd.snd ∧ i.snd.snd.snd ≤ i.fst + (255 : Int) →
 Good (topN (3 : Int)) (false, topF (3 : Int)) ∧
 (itD (topN (3 : Int)).toNat (topN (3 : Int)) (false, topF (3 : Int))).len ≤ (1000 : Nat) ∧
 Good (topN (3 : Int))
 ((metZ (topN (3 : Int)) (0 : Int) (ofLo i.fst i.snd.snd.snd) (ofHi i.fst i.snd.snd.snd)
 (fgZ (topN (3 : Int)) (0 : Int) (false, topF (3 : Int)))).fst,
 (metZ (topN (3 : Int)) (0 : Int) (ofLo i.fst i.snd.snd.snd) (ofHi i.fst i.snd.snd.snd)
 (fgZ (topN (3 : Int)) (0 : Int) (false, topF (3 : Int)))).snd) ∧
 (itD (itD (topN (3 : Int)).toNat (topN (3 : Int)) (false, topF (3 : Int))).len (topN (3 : Int))
 (metZ (topN (3 : Int)) (0 : Int) (ofLo i.fst i.snd.snd.snd) (ofHi i.fst i.snd.snd.snd)
 (fgZ (topN (3 : Int)) (0 : Int) (false, topF (3 : Int))))).len ≤
 (1000 : Nat) ∧
 Good (topN (3 : Int))
 ((copyZ (topN (3 : Int)) (1 : Int) (0 : Int) i.snd.fst
 ((metZ (topN (3 : Int)) (0 : Int) (ofLo i.fst i.snd.snd.snd) (ofHi i.fst i.snd.snd.snd)
 (fgZ (topN (3 : Int)) (0 : Int) (false, topF (3 : Int)))).fst,
 (metZ (topN (3 : Int)) (0 : Int) (ofLo i.fst i.snd.snd.snd) (ofHi i.fst i.snd.snd.snd)
 (fgZ (topN (3 : Int)) (0 : Int) (false, topF (3 : Int)))).snd)).fst,
 (copyZ (topN (3 : Int)) (1 : Int) (0 : Int) i.snd.fst
 ((metZ (topN (3 : Int)) (0 : Int) (ofLo i.fst i.snd.snd.snd) (ofHi i.fst i.snd.snd.snd)
 (fgZ (topN (3 : Int)) (0 : Int) (false, topF (3 : Int)))).fst,
 (metZ (topN (3 : Int)) (0 : Int) (ofLo i.fst i.snd.snd.snd) (ofHi i.fst i.snd.snd.snd)
 (fgZ (topN (3 : Int)) (0 : Int) (false, topF (3 : Int)))).snd)).snd) ∧
 (itD
 (itD (itD (topN (3 : Int)).toNat (topN (3 : Int)) (false, topF (3 : Int))).len (topN (3 : Int))
 (metZ (topN (3 : Int)) (0 : Int) (ofLo i.fst i.snd.snd.snd) (ofHi i.fst i.snd.snd.snd)
 (fgZ (topN (3 : Int)) (0 : Int) (false, topF (3 : Int))))).len
 (topN (3 : Int))
 (copyZ (topN (3 : Int)) (1 : Int) (0 : Int) i.snd.fst
 ((metZ (topN (3 : Int)) (0 : Int) (ofLo i.fst i.snd.snd.snd) (ofHi i.fst i.snd.snd.snd)
 (fgZ (topN (3 : Int)) (0 : Int) (false, topF (3 : Int)))).fst,
 (metZ (topN (3 : Int)) (0 : Int) (ofLo i.fst i.snd.snd.snd) (ofHi i.fst i.snd.snd.snd)
 (fgZ (topN (3 : Int)) (0 : Int) (false, topF (3 : Int)))).snd))).len ≤
 (1000 : Nat) ∧
 (Good (topN (3 : Int))
 ((copyZ (topN (3 : Int)) (2 : Int) (1 : Int) i.snd.snd.fst
 ((copyZ (topN (3 : Int)) (1 : Int) (0 : Int) i.snd.fst
 ((metZ (topN (3 : Int)) (0 : Int) (ofLo i.fst i.snd.snd.snd) (ofHi i.fst i.snd.snd.snd)
 (fgZ (topN (3 : Int)) (0 : Int) (false, topF (3 : Int)))).fst,
 (metZ (topN (3 : Int)) (0 : Int) (ofLo i.fst i.snd.snd.snd) (ofHi i.fst i.snd.snd.snd)
 (fgZ (topN (3 : Int)) (0 : Int) (false, topF (3 : Int)))).snd)).fst,
 (copyZ (topN (3 : Int)) (1 : Int) (0 : Int) i.snd.fst
 ((metZ (topN (3 : Int)) (0 : Int) (ofLo i.fst i.snd.snd.snd) (ofHi i.fst i.snd.snd.snd)
 (fgZ (topN (3 : Int)) (0 : Int) (false, topF (3 : Int)))).fst,
 (metZ (topN (3 : Int)) (0 : Int) (ofLo i.fst i.snd.snd.snd) (ofHi i.fst i.snd.snd.snd)
 (fgZ (topN (3 : Int)) (0 : Int) (false, topF (3 : Int)))).snd)).snd)).fst,
 (copyZ (topN (3 : Int)) (2 : Int) (1 : Int) i.snd.snd.fst
 ((copyZ (topN (3 : Int)) (1 : Int) (0 : Int) i.snd.fst
 ((metZ (topN (3 : Int)) (0 : Int) (ofLo i.fst i.snd.snd.snd) (ofHi i.fst i.snd.snd.snd)
 (fgZ (topN (3 : Int)) (0 : Int) (false, topF (3 : Int)))).fst,
 (metZ (topN (3 : Int)) (0 : Int) (ofLo i.fst i.snd.snd.snd) (ofHi i.fst i.snd.snd.snd)
 (fgZ (topN (3 : Int)) (0 : Int) (false, topF (3 : Int)))).snd)).fst,
 (copyZ (topN (3 : Int)) (1 : Int) (0 : Int) i.snd.fst
 ((metZ (topN (3 : Int)) (0 : Int) (ofLo i.fst i.snd.snd.snd) (ofHi i.fst i.snd.snd.snd)
 (fgZ (topN (3 : Int)) (0 : Int) (false, topF (3 : Int)))).fst,
 (metZ (topN (3 : Int)) (0 : Int) (ofLo i.fst i.snd.snd.snd) (ofHi i.fst i.snd.snd.snd)
 (fgZ (topN (3 : Int)) (0 : Int) (false, topF (3 : Int)))).snd)).snd)).snd) ∧
 (itD
 (itD
 (itD (itD (topN (3 : Int)).toNat (topN (3 : Int)) (false, topF (3 : Int))).len (topN (3 : Int))
 (metZ (topN (3 : Int)) (0 : Int) (ofLo i.fst i.snd.snd.snd) (ofHi i.fst i.snd.snd.snd)
 (fgZ (topN (3 : Int)) (0 : Int) (false, topF (3 : Int))))).len
 (topN (3 : Int))
 (copyZ (topN (3 : Int)) (1 : Int) (0 : Int) i.snd.fst
 ((metZ (topN (3 : Int)) (0 : Int) (ofLo i.fst i.snd.snd.snd) (ofHi i.fst i.snd.snd.snd)
 (fgZ (topN (3 : Int)) (0 : Int) (false, topF (3 : Int)))).fst,
 (metZ (topN (3 : Int)) (0 : Int) (ofLo i.fst i.snd.snd.snd) (ofHi i.fst i.snd.snd.snd)
 (fgZ (topN (3 : Int)) (0 : Int) (false, topF (3 : Int)))).snd))).len
 (topN (3 : Int))
 (copyZ (topN (3 : Int)) (2 : Int) (1 : Int) i.snd.snd.fst
 ((copyZ (topN (3 : Int)) (1 : Int) (0 : Int) i.snd.fst
 ((metZ (topN (3 : Int)) (0 : Int) (ofLo i.fst i.snd.snd.snd) (ofHi i.fst i.snd.snd.snd)
 (fgZ (topN (3 : Int)) (0 : Int) (false, topF (3 : Int)))).fst,
 (metZ (topN (3 : Int)) (0 : Int) (ofLo i.fst i.snd.snd.snd) (ofHi i.fst i.snd.snd.snd)
 (fgZ (topN (3 : Int)) (0 : Int) (false, topF (3 : Int)))).snd)).fst,
 (copyZ (topN (3 : Int)) (1 : Int) (0 : Int) i.snd.fst
 ((metZ (topN (3 : Int)) (0 : Int) (ofLo i.fst i.snd.snd.snd) (ofHi i.fst i.snd.snd.snd)
 (fgZ (topN (3 : Int)) (0 : Int) (false, topF (3 : Int)))).fst,
 (metZ (topN (3 : Int)) (0 : Int) (ofLo i.fst i.snd.snd.snd) (ofHi i.fst i.snd.snd.snd)
 (fgZ (topN (3 : Int)) (0 : Int) (false, topF (3 : Int)))).snd)).snd))).len ≤
 (1000 : Nat) ∧
 ∃ (i_1 : Bool),
 True ∧
 i.fst = i.fst ∧
 i.snd.fst = i.snd.fst ∧
 i.snd.snd.fst = i.snd.snd.fst ∧
 i.snd.snd.snd = i.snd.snd.snd ∧
 (copyZ (topN (3 : Int)) (2 : Int) (1 : Int) i.snd.snd.fst
 ((copyZ (topN (3 : Int)) (1 : Int) (0 : Int) i.snd.fst
 ((metZ (topN (3 : Int)) (0 : Int) (ofLo i.fst i.snd.snd.snd) (ofHi i.fst i.snd.snd.snd)
 (fgZ (topN (3 : Int)) (0 : Int) (false, topF (3 : Int)))).fst,
 (metZ (topN (3 : Int)) (0 : Int) (ofLo i.fst i.snd.snd.snd) (ofHi i.fst i.snd.snd.snd)
 (fgZ (topN (3 : Int)) (0 : Int) (false, topF (3 : Int)))).snd)).fst,
 (copyZ (topN (3 : Int)) (1 : Int) (0 : Int) i.snd.fst
 ((metZ (topN (3 : Int)) (0 : Int) (ofLo i.fst i.snd.snd.snd) (ofHi i.fst i.snd.snd.snd)
 (fgZ (topN (3 : Int)) (0 : Int) (false, topF (3 : Int)))).fst,
 (metZ (topN (3 : Int)) (0 : Int) (ofLo i.fst i.snd.snd.snd) (ofHi i.fst i.snd.snd.snd)
 (fgZ (topN (3 : Int)) (0 : Int) (false, topF (3 : Int)))).snd)).snd)).fst =
 (A3 i.fst i.snd.snd.snd i.snd.fst i.snd.snd.fst).fst ∧
 List.map
 (fun (j : Nat) =>
 [D.i
 (itvLo (topN (3 : Int))
 (copyZ (topN (3 : Int)) (2 : Int) (1 : Int) i.snd.snd.fst
 ((copyZ (topN (3 : Int)) (1 : Int) (0 : Int) i.snd.fst
 ((metZ (topN (3 : Int)) (0 : Int) (ofLo i.fst i.snd.snd.snd) (ofHi i.fst i.snd.snd.snd)
 (fgZ (topN (3 : Int)) (0 : Int) (false, topF (3 : Int)))).fst,
 (metZ (topN (3 : Int)) (0 : Int) (ofLo i.fst i.snd.snd.snd) (ofHi i.fst i.snd.snd.snd)
 (fgZ (topN (3 : Int)) (0 : Int) (false, topF (3 : Int)))).snd)).fst,
 (copyZ (topN (3 : Int)) (1 : Int) (0 : Int) i.snd.fst
 ((metZ (topN (3 : Int)) (0 : Int) (ofLo i.fst i.snd.snd.snd) (ofHi i.fst i.snd.snd.snd)
 (fgZ (topN (3 : Int)) (0 : Int) (false, topF (3 : Int)))).fst,
 (metZ (topN (3 : Int)) (0 : Int) (ofLo i.fst i.snd.snd.snd) (ofHi i.fst i.snd.snd.snd)
 (fgZ (topN (3 : Int)) (0 : Int) (false, topF (3 : Int)))).snd)).snd)).fst
 (copyZ (topN (3 : Int)) (2 : Int) (1 : Int) i.snd.snd.fst
 ((copyZ (topN (3 : Int)) (1 : Int) (0 : Int) i.snd.fst
 ((metZ (topN (3 : Int)) (0 : Int) (ofLo i.fst i.snd.snd.snd) (ofHi i.fst i.snd.snd.snd)
 (fgZ (topN (3 : Int)) (0 : Int) (false, topF (3 : Int)))).fst,
 (metZ (topN (3 : Int)) (0 : Int) (ofLo i.fst i.snd.snd.snd) (ofHi i.fst i.snd.snd.snd)
 (fgZ (topN (3 : Int)) (0 : Int) (false, topF (3 : Int)))).snd)).fst,
 (copyZ (topN (3 : Int)) (1 : Int) (0 : Int) i.snd.fst
 ((metZ (topN (3 : Int)) (0 : Int) (ofLo i.fst i.snd.snd.snd) (ofHi i.fst i.snd.snd.snd)
 (fgZ (topN (3 : Int)) (0 : Int) (false, topF (3 : Int)))).fst,
 (metZ (topN (3 : Int)) (0 : Int) (ofLo i.fst i.snd.snd.snd) (ofHi i.fst i.snd.snd.snd)
 (fgZ (topN (3 : Int)) (0 : Int) (false, topF (3 : Int)))).snd)).snd)).snd
 (↑j : Int)),
 D.i
 (itvHi (topN (3 : Int))
 (copyZ (topN (3 : Int)) (2 : Int) (1 : Int) i.snd.snd.fst
 ((copyZ (topN (3 : Int)) (1 : Int) (0 : Int) i.snd.fst
 ((metZ (topN (3 : Int)) (0 : Int) (ofLo i.fst i.snd.snd.snd) (ofHi i.fst i.snd.snd.snd)
 (fgZ (topN (3 : Int)) (0 : Int) (false, topF (3 : Int)))).fst,
 (metZ (topN (3 : Int)) (0 : Int) (ofLo i.fst i.snd.snd.snd) (ofHi i.fst i.snd.snd.snd)
 (fgZ (topN (3 : Int)) (0 : Int) (false, topF (3 : Int)))).snd)).fst,
 (copyZ (topN (3 : Int)) (1 : Int) (0 : Int) i.snd.fst
 ((metZ (topN (3 : Int)) (0 : Int) (ofLo i.fst i.snd.snd.snd) (ofHi i.fst i.snd.snd.snd)
 (fgZ (topN (3 : Int)) (0 : Int) (false, topF (3 : Int)))).fst,
 (metZ (topN (3 : Int)) (0 : Int) (ofLo i.fst i.snd.snd.snd) (ofHi i.fst i.snd.snd.snd)
 (fgZ (topN (3 : Int)) (0 : Int) (false, topF (3 : Int)))).snd)).snd)).fst
 (copyZ (topN (3 : Int)) (2 : Int) (1 : Int) i.snd.snd.fst
 ((copyZ (topN (3 : Int)) (1 : Int) (0 : Int) i.snd.fst
 ((metZ (topN (3 : Int)) (0 : Int) (ofLo i.fst i.snd.snd.snd) (ofHi i.fst i.snd.snd.snd)
 (fgZ (topN (3 : Int)) (0 : Int) (false, topF (3 : Int)))).fst,
 (metZ (topN (3 : Int)) (0 : Int) (ofLo i.fst i.snd.snd.snd) (ofHi i.fst i.snd.snd.snd)
 (fgZ (topN (3 : Int)) (0 : Int) (false, topF (3 : Int)))).snd)).fst,
 (copyZ (topN (3 : Int)) (1 : Int) (0 : Int) i.snd.fst
 ((metZ (topN (3 : Int)) (0 : Int) (ofLo i.fst i.snd.snd.snd) (ofHi i.fst i.snd.snd.snd)
 (fgZ (topN (3 : Int)) (0 : Int) (false, topF (3 : Int)))).fst,
 (metZ (topN (3 : Int)) (0 : Int) (ofLo i.fst i.snd.snd.snd) (ofHi i.fst i.snd.snd.snd)
 (fgZ (topN (3 : Int)) (0 : Int) (false, topF (3 : Int)))).snd)).snd)).snd
 (↑j : Int))])
 (List.range
 (itD
 (itD (itD (topN (3 : Int)).toNat (topN (3 : Int)) (false, topF (3 : Int))).len (topN (3 : Int))
 (metZ (topN (3 : Int)) (0 : Int) (ofLo i.fst i.snd.snd.snd) (ofHi i.fst i.snd.snd.snd)
 (fgZ (topN (3 : Int)) (0 : Int) (false, topF (3 : Int))))).len
 (topN (3 : Int))
 (copyZ (topN (3 : Int)) (1 : Int) (0 : Int) i.snd.fst
 ((metZ (topN (3 : Int)) (0 : Int) (ofLo i.fst i.snd.snd.snd) (ofHi i.fst i.snd.snd.snd)
 (fgZ (topN (3 : Int)) (0 : Int) (false, topF (3 : Int)))).fst,
 (metZ (topN (3 : Int)) (0 : Int) (ofLo i.fst i.snd.snd.snd) (ofHi i.fst i.snd.snd.snd)
 (fgZ (topN (3 : Int)) (0 : Int) (false, topF (3 : Int)))).snd))).len) =
 List.map
 (fun (j : Nat) =>
 [D.i
 (itvLo (3 : Int) (A3 i.fst i.snd.snd.snd i.snd.fst i.snd.snd.fst).fst
 (A3 i.fst i.snd.snd.snd i.snd.fst i.snd.snd.fst).snd (↑j : Int)),
 D.i
 (itvHi (3 : Int) (A3 i.fst i.snd.snd.snd i.snd.fst i.snd.snd.fst).fst
 (A3 i.fst i.snd.snd.snd i.snd.fst i.snd.snd.fst).snd (↑j : Int))])
 (List.range (3 : Nat)) ∧
 topN (3 : Int) = (3 : Int) ∧
 (copyZ (topN (3 : Int)) (2 : Int) (1 : Int) i.snd.snd.fst
 ((copyZ (topN (3 : Int)) (1 : Int) (0 : Int) i.snd.fst
 ((metZ (topN (3 : Int)) (0 : Int) (ofLo i.fst i.snd.snd.snd) (ofHi i.fst i.snd.snd.snd)
 (fgZ (topN (3 : Int)) (0 : Int) (false, topF (3 : Int)))).fst,
 (metZ (topN (3 : Int)) (0 : Int) (ofLo i.fst i.snd.snd.snd) (ofHi i.fst i.snd.snd.snd)
 (fgZ (topN (3 : Int)) (0 : Int) (false, topF (3 : Int)))).snd)).fst,
 (copyZ (topN (3 : Int)) (1 : Int) (0 : Int) i.snd.fst
 ((metZ (topN (3 : Int)) (0 : Int) (ofLo i.fst i.snd.snd.snd) (ofHi i.fst i.snd.snd.snd)
 (fgZ (topN (3 : Int)) (0 : Int) (false, topF (3 : Int)))).fst,
 (metZ (topN (3 : Int)) (0 : Int) (ofLo i.fst i.snd.snd.snd) (ofHi i.fst i.snd.snd.snd)
 (fgZ (topN (3 : Int)) (0 : Int) (false, topF (3 : Int)))).snd)).snd)).fst =
 (A3 i.fst i.snd.snd.snd i.snd.fst i.snd.snd.fst).fst ∧
 (∀ (o : Nat),
 o < nat_lit 49 →
 (copyZ (topN (3 : Int)) (2 : Int) (1 : Int) i.snd.snd.fst
 ((copyZ (topN (3 : Int)) (1 : Int) (0 : Int) i.snd.fst
 ((metZ (topN (3 : Int)) (0 : Int) (ofLo i.fst i.snd.snd.snd) (ofHi i.fst i.snd.snd.snd)
 (fgZ (topN (3 : Int)) (0 : Int) (false, topF (3 : Int)))).fst,
 (metZ (topN (3 : Int)) (0 : Int) (ofLo i.fst i.snd.snd.snd) (ofHi i.fst i.snd.snd.snd)
 (fgZ (topN (3 : Int)) (0 : Int) (false, topF (3 : Int)))).snd)).fst,
 (copyZ (topN (3 : Int)) (1 : Int) (0 : Int) i.snd.fst
 ((metZ (topN (3 : Int)) (0 : Int) (ofLo i.fst i.snd.snd.snd) (ofHi i.fst i.snd.snd.snd)
 (fgZ (topN (3 : Int)) (0 : Int) (false, topF (3 : Int)))).fst,
 (metZ (topN (3 : Int)) (0 : Int) (ofLo i.fst i.snd.snd.snd) (ofHi i.fst i.snd.snd.snd)
 (fgZ (topN (3 : Int)) (0 : Int) (false, topF (3 : Int)))).snd)).snd)).snd
 o =
 (A3 i.fst i.snd.snd.snd i.snd.fst i.snd.snd.fst).snd o) ∧
 (metZ (topN (3 : Int)) (2 : Int)
 (ofLo (IntKind.i64.wrap (IntKind.i64.wrap (i.snd.snd.snd + i.snd.fst) + i.snd.snd.fst))
 (IntKind.i64.wrap (IntKind.i64.wrap (i.snd.snd.snd + i.snd.fst) + i.snd.snd.fst)))
 (ofHi (IntKind.i64.wrap (IntKind.i64.wrap (i.snd.snd.snd + i.snd.fst) + i.snd.snd.fst))
 (IntKind.i64.wrap (IntKind.i64.wrap (i.snd.snd.snd + i.snd.fst) + i.snd.snd.fst)))
 ((copyZ (topN (3 : Int)) (2 : Int) (1 : Int) i.snd.snd.fst
 ((copyZ (topN (3 : Int)) (1 : Int) (0 : Int) i.snd.fst
 ((metZ (topN (3 : Int)) (0 : Int) (ofLo i.fst i.snd.snd.snd) (ofHi i.fst i.snd.snd.snd)
 (fgZ (topN (3 : Int)) (0 : Int) (false, topF (3 : Int)))).fst,
 (metZ (topN (3 : Int)) (0 : Int) (ofLo i.fst i.snd.snd.snd) (ofHi i.fst i.snd.snd.snd)
 (fgZ (topN (3 : Int)) (0 : Int) (false, topF (3 : Int)))).snd)).fst,
 (copyZ (topN (3 : Int)) (1 : Int) (0 : Int) i.snd.fst
 ((metZ (topN (3 : Int)) (0 : Int) (ofLo i.fst i.snd.snd.snd) (ofHi i.fst i.snd.snd.snd)
 (fgZ (topN (3 : Int)) (0 : Int) (false, topF (3 : Int)))).fst,
 (metZ (topN (3 : Int)) (0 : Int) (ofLo i.fst i.snd.snd.snd) (ofHi i.fst i.snd.snd.snd)
 (fgZ (topN (3 : Int)) (0 : Int) (false, topF (3 : Int)))).snd)).snd)).fst,
 (copyZ (topN (3 : Int)) (2 : Int) (1 : Int) i.snd.snd.fst
 ((copyZ (topN (3 : Int)) (1 : Int) (0 : Int) i.snd.fst
 ((metZ (topN (3 : Int)) (0 : Int) (ofLo i.fst i.snd.snd.snd) (ofHi i.fst i.snd.snd.snd)
 (fgZ (topN (3 : Int)) (0 : Int) (false, topF (3 : Int)))).fst,
 (metZ (topN (3 : Int)) (0 : Int) (ofLo i.fst i.snd.snd.snd) (ofHi i.fst i.snd.snd.snd)
 (fgZ (topN (3 : Int)) (0 : Int) (false, topF (3 : Int)))).snd)).fst,
 (copyZ (topN (3 : Int)) (1 : Int) (0 : Int) i.snd.fst
 ((metZ (topN (3 : Int)) (0 : Int) (ofLo i.fst i.snd.snd.snd) (ofHi i.fst i.snd.snd.snd)
 (fgZ (topN (3 : Int)) (0 : Int) (false, topF (3 : Int)))).fst,
 (metZ (topN (3 : Int)) (0 : Int) (ofLo i.fst i.snd.snd.snd) (ofHi i.fst i.snd.snd.snd)
 (fgZ (topN (3 : Int)) (0 : Int) (false, topF (3 : Int)))).snd)).snd)).snd)).fst =
 (B4 i.fst i.snd.snd.snd i.snd.fst i.snd.snd.fst).fst ∧
 List.map
 (fun (j : Nat) =>
 [D.i
 (itvLo (topN (3 : Int))
 (metZ (topN (3 : Int)) (2 : Int)
 (ofLo (IntKind.i64.wrap (IntKind.i64.wrap (i.snd.snd.snd + i.snd.fst) + i.snd.snd.fst))
 (IntKind.i64.wrap (IntKind.i64.wrap (i.snd.snd.snd + i.snd.fst) + i.snd.snd.fst)))
 (ofHi (IntKind.i64.wrap (IntKind.i64.wrap (i.snd.snd.snd + i.snd.fst) + i.snd.snd.fst))
 (IntKind.i64.wrap (IntKind.i64.wrap (i.snd.snd.snd + i.snd.fst) + i.snd.snd.fst)))
 ((copyZ (topN (3 : Int)) (2 : Int) (1 : Int) i.snd.snd.fst
 ((copyZ (topN (3 : Int)) (1 : Int) (0 : Int) i.snd.fst
 ((metZ (topN (3 : Int)) (0 : Int) (ofLo i.fst i.snd.snd.snd)
 (ofHi i.fst i.snd.snd.snd)
 (fgZ (topN (3 : Int)) (0 : Int) (false, topF (3 : Int)))).fst,
 (metZ (topN (3 : Int)) (0 : Int) (ofLo i.fst i.snd.snd.snd)
 (ofHi i.fst i.snd.snd.snd)
 (fgZ (topN (3 : Int)) (0 : Int) (false, topF (3 : Int)))).snd)).fst,
 (copyZ (topN (3 : Int)) (1 : Int) (0 : Int) i.snd.fst
 ((metZ (topN (3 : Int)) (0 : Int) (ofLo i.fst i.snd.snd.snd)
 (ofHi i.fst i.snd.snd.snd)
 (fgZ (topN (3 : Int)) (0 : Int) (false, topF (3 : Int)))).fst,
 (metZ (topN (3 : Int)) (0 : Int) (ofLo i.fst i.snd.snd.snd)
 (ofHi i.fst i.snd.snd.snd)
 (fgZ (topN (3 : Int)) (0 : Int)
 (false, topF (3 : Int)))).snd)).snd)).fst,
 (copyZ (topN (3 : Int)) (2 : Int) (1 : Int) i.snd.snd.fst
 ((copyZ (topN (3 : Int)) (1 : Int) (0 : Int) i.snd.fst
 ((metZ (topN (3 : Int)) (0 : Int) (ofLo i.fst i.snd.snd.snd)
 (ofHi i.fst i.snd.snd.snd)
 (fgZ (topN (3 : Int)) (0 : Int) (false, topF (3 : Int)))).fst,
 (metZ (topN (3 : Int)) (0 : Int) (ofLo i.fst i.snd.snd.snd)
 (ofHi i.fst i.snd.snd.snd)
 (fgZ (topN (3 : Int)) (0 : Int) (false, topF (3 : Int)))).snd)).fst,
 (copyZ (topN (3 : Int)) (1 : Int) (0 : Int) i.snd.fst
 ((metZ (topN (3 : Int)) (0 : Int) (ofLo i.fst i.snd.snd.snd)
 (ofHi i.fst i.snd.snd.snd)
 (fgZ (topN (3 : Int)) (0 : Int) (false, topF (3 : Int)))).fst,
 (metZ (topN (3 : Int)) (0 : Int) (ofLo i.fst i.snd.snd.snd)
 (ofHi i.fst i.snd.snd.snd)
 (fgZ (topN (3 : Int)) (0 : Int)
 (false, topF (3 : Int)))).snd)).snd)).snd)).fst
 (metZ (topN (3 : Int)) (2 : Int)
 (ofLo (IntKind.i64.wrap (IntKind.i64.wrap (i.snd.snd.snd + i.snd.fst) + i.snd.snd.fst))
 (IntKind.i64.wrap (IntKind.i64.wrap (i.snd.snd.snd + i.snd.fst) + i.snd.snd.fst)))
 (ofHi (IntKind.i64.wrap (IntKind.i64.wrap (i.snd.snd.snd + i.snd.fst) + i.snd.snd.fst))
 (IntKind.i64.wrap (IntKind.i64.wrap (i.snd.snd.snd + i.snd.fst) + i.snd.snd.fst)))
 ((copyZ (topN (3 : Int)) (2 : Int) (1 : Int) i.snd.snd.fst
 ((copyZ (topN (3 : Int)) (1 : Int) (0 : Int) i.snd.fst
 ((metZ (topN (3 : Int)) (0 : Int) (ofLo i.fst i.snd.snd.snd)
 (ofHi i.fst i.snd.snd.snd)
 (fgZ (topN (3 : Int)) (0 : Int) (false, topF (3 : Int)))).fst,
 (metZ (topN (3 : Int)) (0 : Int) (ofLo i.fst i.snd.snd.snd)
 (ofHi i.fst i.snd.snd.snd)
 (fgZ (topN (3 : Int)) (0 : Int) (false, topF (3 : Int)))).snd)).fst,
 (copyZ (topN (3 : Int)) (1 : Int) (0 : Int) i.snd.fst
 ((metZ (topN (3 : Int)) (0 : Int) (ofLo i.fst i.snd.snd.snd)
 (ofHi i.fst i.snd.snd.snd)
 (fgZ (topN (3 : Int)) (0 : Int) (false, topF (3 : Int)))).fst,
 (metZ (topN (3 : Int)) (0 : Int) (ofLo i.fst i.snd.snd.snd)
 (ofHi i.fst i.snd.snd.snd)
 (fgZ (topN (3 : Int)) (0 : Int)
 (false, topF (3 : Int)))).snd)).snd)).fst,
 (copyZ (topN (3 : Int)) (2 : Int) (1 : Int) i.snd.snd.fst
 ((copyZ (topN (3 : Int)) (1 : Int) (0 : Int) i.snd.fst
 ((metZ (topN (3 : Int)) (0 : Int) (ofLo i.fst i.snd.snd.snd)
 (ofHi i.fst i.snd.snd.snd)
 (fgZ (topN (3 : Int)) (0 : Int) (false, topF (3 : Int)))).fst,
 (metZ (topN (3 : Int)) (0 : Int) (ofLo i.fst i.snd.snd.snd)
 (ofHi i.fst i.snd.snd.snd)
 (fgZ (topN (3 : Int)) (0 : Int) (false, topF (3 : Int)))).snd)).fst,
 (copyZ (topN (3 : Int)) (1 : Int) (0 : Int) i.snd.fst
 ((metZ (topN (3 : Int)) (0 : Int) (ofLo i.fst i.snd.snd.snd)
 (ofHi i.fst i.snd.snd.snd)
 (fgZ (topN (3 : Int)) (0 : Int) (false, topF (3 : Int)))).fst,
 (metZ (topN (3 : Int)) (0 : Int) (ofLo i.fst i.snd.snd.snd)
 (ofHi i.fst i.snd.snd.snd)
 (fgZ (topN (3 : Int)) (0 : Int)
 (false, topF (3 : Int)))).snd)).snd)).snd)).snd
 (↑j : Int)),
 D.i
 (itvHi (topN (3 : Int))
 (metZ (topN (3 : Int)) (2 : Int)
 (ofLo (IntKind.i64.wrap (IntKind.i64.wrap (i.snd.snd.snd + i.snd.fst) + i.snd.snd.fst))
 (IntKind.i64.wrap (IntKind.i64.wrap (i.snd.snd.snd + i.snd.fst) + i.snd.snd.fst)))
 (ofHi (IntKind.i64.wrap (IntKind.i64.wrap (i.snd.snd.snd + i.snd.fst) + i.snd.snd.fst))
 (IntKind.i64.wrap (IntKind.i64.wrap (i.snd.snd.snd + i.snd.fst) + i.snd.snd.fst)))
 ((copyZ (topN (3 : Int)) (2 : Int) (1 : Int) i.snd.snd.fst
 ((copyZ (topN (3 : Int)) (1 : Int) (0 : Int) i.snd.fst
 ((metZ (topN (3 : Int)) (0 : Int) (ofLo i.fst i.snd.snd.snd)
 (ofHi i.fst i.snd.snd.snd)
 (fgZ (topN (3 : Int)) (0 : Int) (false, topF (3 : Int)))).fst,
 (metZ (topN (3 : Int)) (0 : Int) (ofLo i.fst i.snd.snd.snd)
 (ofHi i.fst i.snd.snd.snd)
 (fgZ (topN (3 : Int)) (0 : Int) (false, topF (3 : Int)))).snd)).fst,
 (copyZ (topN (3 : Int)) (1 : Int) (0 : Int) i.snd.fst
 ((metZ (topN (3 : Int)) (0 : Int) (ofLo i.fst i.snd.snd.snd)
 (ofHi i.fst i.snd.snd.snd)
 (fgZ (topN (3 : Int)) (0 : Int) (false, topF (3 : Int)))).fst,
 (metZ (topN (3 : Int)) (0 : Int) (ofLo i.fst i.snd.snd.snd)
 (ofHi i.fst i.snd.snd.snd)
 (fgZ (topN (3 : Int)) (0 : Int)
 (false, topF (3 : Int)))).snd)).snd)).fst,
 (copyZ (topN (3 : Int)) (2 : Int) (1 : Int) i.snd.snd.fst
 ((copyZ (topN (3 : Int)) (1 : Int) (0 : Int) i.snd.fst
 ((metZ (topN (3 : Int)) (0 : Int) (ofLo i.fst i.snd.snd.snd)
 (ofHi i.fst i.snd.snd.snd)
 (fgZ (topN (3 : Int)) (0 : Int) (false, topF (3 : Int)))).fst,
 (metZ (topN (3 : Int)) (0 : Int) (ofLo i.fst i.snd.snd.snd)
 (ofHi i.fst i.snd.snd.snd)
 (fgZ (topN (3 : Int)) (0 : Int) (false, topF (3 : Int)))).snd)).fst,
 (copyZ (topN (3 : Int)) (1 : Int) (0 : Int) i.snd.fst
 ((metZ (topN (3 : Int)) (0 : Int) (ofLo i.fst i.snd.snd.snd)
 (ofHi i.fst i.snd.snd.snd)
 (fgZ (topN (3 : Int)) (0 : Int) (false, topF (3 : Int)))).fst,
 (metZ (topN (3 : Int)) (0 : Int) (ofLo i.fst i.snd.snd.snd)
 (ofHi i.fst i.snd.snd.snd)
 (fgZ (topN (3 : Int)) (0 : Int)
 (false, topF (3 : Int)))).snd)).snd)).snd)).fst
 (metZ (topN (3 : Int)) (2 : Int)
 (ofLo (IntKind.i64.wrap (IntKind.i64.wrap (i.snd.snd.snd + i.snd.fst) + i.snd.snd.fst))
 (IntKind.i64.wrap (IntKind.i64.wrap (i.snd.snd.snd + i.snd.fst) + i.snd.snd.fst)))
 (ofHi (IntKind.i64.wrap (IntKind.i64.wrap (i.snd.snd.snd + i.snd.fst) + i.snd.snd.fst))
 (IntKind.i64.wrap (IntKind.i64.wrap (i.snd.snd.snd + i.snd.fst) + i.snd.snd.fst)))
 ((copyZ (topN (3 : Int)) (2 : Int) (1 : Int) i.snd.snd.fst
 ((copyZ (topN (3 : Int)) (1 : Int) (0 : Int) i.snd.fst
 ((metZ (topN (3 : Int)) (0 : Int) (ofLo i.fst i.snd.snd.snd)
 (ofHi i.fst i.snd.snd.snd)
 (fgZ (topN (3 : Int)) (0 : Int) (false, topF (3 : Int)))).fst,
 (metZ (topN (3 : Int)) (0 : Int) (ofLo i.fst i.snd.snd.snd)
 (ofHi i.fst i.snd.snd.snd)
 (fgZ (topN (3 : Int)) (0 : Int) (false, topF (3 : Int)))).snd)).fst,
 (copyZ (topN (3 : Int)) (1 : Int) (0 : Int) i.snd.fst
 ((metZ (topN (3 : Int)) (0 : Int) (ofLo i.fst i.snd.snd.snd)
 (ofHi i.fst i.snd.snd.snd)
 (fgZ (topN (3 : Int)) (0 : Int) (false, topF (3 : Int)))).fst,
 (metZ (topN (3 : Int)) (0 : Int) (ofLo i.fst i.snd.snd.snd)
 (ofHi i.fst i.snd.snd.snd)
 (fgZ (topN (3 : Int)) (0 : Int)
 (false, topF (3 : Int)))).snd)).snd)).fst,
 (copyZ (topN (3 : Int)) (2 : Int) (1 : Int) i.snd.snd.fst
 ((copyZ (topN (3 : Int)) (1 : Int) (0 : Int) i.snd.fst
 ((metZ (topN (3 : Int)) (0 : Int) (ofLo i.fst i.snd.snd.snd)
 (ofHi i.fst i.snd.snd.snd)
 (fgZ (topN (3 : Int)) (0 : Int) (false, topF (3 : Int)))).fst,
 (metZ (topN (3 : Int)) (0 : Int) (ofLo i.fst i.snd.snd.snd)
 (ofHi i.fst i.snd.snd.snd)
 (fgZ (topN (3 : Int)) (0 : Int) (false, topF (3 : Int)))).snd)).fst,
 (copyZ (topN (3 : Int)) (1 : Int) (0 : Int) i.snd.fst
 ((metZ (topN (3 : Int)) (0 : Int) (ofLo i.fst i.snd.snd.snd)
 (ofHi i.fst i.snd.snd.snd)
 (fgZ (topN (3 : Int)) (0 : Int) (false, topF (3 : Int)))).fst,
 (metZ (topN (3 : Int)) (0 : Int) (ofLo i.fst i.snd.snd.snd)
 (ofHi i.fst i.snd.snd.snd)
 (fgZ (topN (3 : Int)) (0 : Int)
 (false, topF (3 : Int)))).snd)).snd)).snd)).snd
 (↑j : Int))])
 (List.range
 (itD
 (itD
 (itD (itD (topN (3 : Int)).toNat (topN (3 : Int)) (false, topF (3 : Int))).len
 (topN (3 : Int))
 (metZ (topN (3 : Int)) (0 : Int) (ofLo i.fst i.snd.snd.snd) (ofHi i.fst i.snd.snd.snd)
 (fgZ (topN (3 : Int)) (0 : Int) (false, topF (3 : Int))))).len
 (topN (3 : Int))
 (copyZ (topN (3 : Int)) (1 : Int) (0 : Int) i.snd.fst
 ((metZ (topN (3 : Int)) (0 : Int) (ofLo i.fst i.snd.snd.snd) (ofHi i.fst i.snd.snd.snd)
 (fgZ (topN (3 : Int)) (0 : Int) (false, topF (3 : Int)))).fst,
 (metZ (topN (3 : Int)) (0 : Int) (ofLo i.fst i.snd.snd.snd) (ofHi i.fst i.snd.snd.snd)
 (fgZ (topN (3 : Int)) (0 : Int) (false, topF (3 : Int)))).snd))).len
 (topN (3 : Int))
 (copyZ (topN (3 : Int)) (2 : Int) (1 : Int) i.snd.snd.fst
 ((copyZ (topN (3 : Int)) (1 : Int) (0 : Int) i.snd.fst
 ((metZ (topN (3 : Int)) (0 : Int) (ofLo i.fst i.snd.snd.snd)
 (ofHi i.fst i.snd.snd.snd)
 (fgZ (topN (3 : Int)) (0 : Int) (false, topF (3 : Int)))).fst,
 (metZ (topN (3 : Int)) (0 : Int) (ofLo i.fst i.snd.snd.snd)
 (ofHi i.fst i.snd.snd.snd)
 (fgZ (topN (3 : Int)) (0 : Int) (false, topF (3 : Int)))).snd)).fst,
 (copyZ (topN (3 : Int)) (1 : Int) (0 : Int) i.snd.fst
 ((metZ (topN (3 : Int)) (0 : Int) (ofLo i.fst i.snd.snd.snd)
 (ofHi i.fst i.snd.snd.snd)
 (fgZ (topN (3 : Int)) (0 : Int) (false, topF (3 : Int)))).fst,
 (metZ (topN (3 : Int)) (0 : Int) (ofLo i.fst i.snd.snd.snd)
 (ofHi i.fst i.snd.snd.snd)
 (fgZ (topN (3 : Int)) (0 : Int) (false, topF (3 : Int)))).snd)).snd))).len) =
 List.map
 (fun (j : Nat) =>
 [D.i
 (itvLo (3 : Int) (B4 i.fst i.snd.snd.snd i.snd.fst i.snd.snd.fst).fst
 (B4 i.fst i.snd.snd.snd i.snd.fst i.snd.snd.fst).snd (↑j : Int)),
 D.i
 (itvHi (3 : Int) (B4 i.fst i.snd.snd.snd i.snd.fst i.snd.snd.fst).fst
 (B4 i.fst i.snd.snd.snd i.snd.fst i.snd.snd.fst).snd (↑j : Int))])
 (List.range (3 : Nat)) ∧
 topN (3 : Int) = (3 : Int) ∧
 (metZ (topN (3 : Int)) (2 : Int)
 (ofLo (IntKind.i64.wrap (IntKind.i64.wrap (i.snd.snd.snd + i.snd.fst) + i.snd.snd.fst))
 (IntKind.i64.wrap (IntKind.i64.wrap (i.snd.snd.snd + i.snd.fst) + i.snd.snd.fst)))
 (ofHi (IntKind.i64.wrap (IntKind.i64.wrap (i.snd.snd.snd + i.snd.fst) + i.snd.snd.fst))
 (IntKind.i64.wrap (IntKind.i64.wrap (i.snd.snd.snd + i.snd.fst) + i.snd.snd.fst)))
 ((copyZ (topN (3 : Int)) (2 : Int) (1 : Int) i.snd.snd.fst
 ((copyZ (topN (3 : Int)) (1 : Int) (0 : Int) i.snd.fst
 ((metZ (topN (3 : Int)) (0 : Int) (ofLo i.fst i.snd.snd.snd)
 (ofHi i.fst i.snd.snd.snd)
 (fgZ (topN (3 : Int)) (0 : Int) (false, topF (3 : Int)))).fst,
 (metZ (topN (3 : Int)) (0 : Int) (ofLo i.fst i.snd.snd.snd)
 (ofHi i.fst i.snd.snd.snd)
 (fgZ (topN (3 : Int)) (0 : Int) (false, topF (3 : Int)))).snd)).fst,
 (copyZ (topN (3 : Int)) (1 : Int) (0 : Int) i.snd.fst
 ((metZ (topN (3 : Int)) (0 : Int) (ofLo i.fst i.snd.snd.snd)
 (ofHi i.fst i.snd.snd.snd)
 (fgZ (topN (3 : Int)) (0 : Int) (false, topF (3 : Int)))).fst,
 (metZ (topN (3 : Int)) (0 : Int) (ofLo i.fst i.snd.snd.snd)
 (ofHi i.fst i.snd.snd.snd)
 (fgZ (topN (3 : Int)) (0 : Int) (false, topF (3 : Int)))).snd)).snd)).fst,
 (copyZ (topN (3 : Int)) (2 : Int) (1 : Int) i.snd.snd.fst
 ((copyZ (topN (3 : Int)) (1 : Int) (0 : Int) i.snd.fst
 ((metZ (topN (3 : Int)) (0 : Int) (ofLo i.fst i.snd.snd.snd)
 (ofHi i.fst i.snd.snd.snd)
 (fgZ (topN (3 : Int)) (0 : Int) (false, topF (3 : Int)))).fst,
 (metZ (topN (3 : Int)) (0 : Int) (ofLo i.fst i.snd.snd.snd)
 (ofHi i.fst i.snd.snd.snd)
 (fgZ (topN (3 : Int)) (0 : Int) (false, topF (3 : Int)))).snd)).fst,
 (copyZ (topN (3 : Int)) (1 : Int) (0 : Int) i.snd.fst
 ((metZ (topN (3 : Int)) (0 : Int) (ofLo i.fst i.snd.snd.snd)
 (ofHi i.fst i.snd.snd.snd)
 (fgZ (topN (3 : Int)) (0 : Int) (false, topF (3 : Int)))).fst,
 (metZ (topN (3 : Int)) (0 : Int) (ofLo i.fst i.snd.snd.snd)
 (ofHi i.fst i.snd.snd.snd)
 (fgZ (topN (3 : Int)) (0 : Int)
 (false, topF (3 : Int)))).snd)).snd)).snd)).fst =
 (B4 i.fst i.snd.snd.snd i.snd.fst i.snd.snd.fst).fst ∧
 ∀ (o : Nat),
 o < nat_lit 49 →
 (metZ (topN (3 : Int)) (2 : Int)
 (ofLo (IntKind.i64.wrap (IntKind.i64.wrap (i.snd.snd.snd + i.snd.fst) + i.snd.snd.fst))
 (IntKind.i64.wrap (IntKind.i64.wrap (i.snd.snd.snd + i.snd.fst) + i.snd.snd.fst)))
 (ofHi (IntKind.i64.wrap (IntKind.i64.wrap (i.snd.snd.snd + i.snd.fst) + i.snd.snd.fst))
 (IntKind.i64.wrap (IntKind.i64.wrap (i.snd.snd.snd + i.snd.fst) + i.snd.snd.fst)))
 ((copyZ (topN (3 : Int)) (2 : Int) (1 : Int) i.snd.snd.fst
 ((copyZ (topN (3 : Int)) (1 : Int) (0 : Int) i.snd.fst
 ((metZ (topN (3 : Int)) (0 : Int) (ofLo i.fst i.snd.snd.snd)
 (ofHi i.fst i.snd.snd.snd)
 (fgZ (topN (3 : Int)) (0 : Int) (false, topF (3 : Int)))).fst,
 (metZ (topN (3 : Int)) (0 : Int) (ofLo i.fst i.snd.snd.snd)
 (ofHi i.fst i.snd.snd.snd)
 (fgZ (topN (3 : Int)) (0 : Int) (false, topF (3 : Int)))).snd)).fst,
 (copyZ (topN (3 : Int)) (1 : Int) (0 : Int) i.snd.fst
 ((metZ (topN (3 : Int)) (0 : Int) (ofLo i.fst i.snd.snd.snd)
 (ofHi i.fst i.snd.snd.snd)
 (fgZ (topN (3 : Int)) (0 : Int) (false, topF (3 : Int)))).fst,
 (metZ (topN (3 : Int)) (0 : Int) (ofLo i.fst i.snd.snd.snd)
 (ofHi i.fst i.snd.snd.snd)
 (fgZ (topN (3 : Int)) (0 : Int)
 (false, topF (3 : Int)))).snd)).snd)).fst,
 (copyZ (topN (3 : Int)) (2 : Int) (1 : Int) i.snd.snd.fst
 ((copyZ (topN (3 : Int)) (1 : Int) (0 : Int) i.snd.fst
 ((metZ (topN (3 : Int)) (0 : Int) (ofLo i.fst i.snd.snd.snd)
 (ofHi i.fst i.snd.snd.snd)
 (fgZ (topN (3 : Int)) (0 : Int) (false, topF (3 : Int)))).fst,
 (metZ (topN (3 : Int)) (0 : Int) (ofLo i.fst i.snd.snd.snd)
 (ofHi i.fst i.snd.snd.snd)
 (fgZ (topN (3 : Int)) (0 : Int) (false, topF (3 : Int)))).snd)).fst,
 (copyZ (topN (3 : Int)) (1 : Int) (0 : Int) i.snd.fst
 ((metZ (topN (3 : Int)) (0 : Int) (ofLo i.fst i.snd.snd.snd)
 (ofHi i.fst i.snd.snd.snd)
 (fgZ (topN (3 : Int)) (0 : Int) (false, topF (3 : Int)))).fst,
 (metZ (topN (3 : Int)) (0 : Int) (ofLo i.fst i.snd.snd.snd)
 (ofHi i.fst i.snd.snd.snd)
 (fgZ (topN (3 : Int)) (0 : Int)
 (false, topF (3 : Int)))).snd)).snd)).snd)).snd
 o =
 (B4 i.fst i.snd.snd.snd i.snd.fst i.snd.snd.fst).snd o) ∧
 ∀ (i_1 : Bool),
 True →
 ((!true) = false ∧ True → Sm (A3 i.fst i.snd.snd.snd i.snd.fst i.snd.snd.fst).snd) ∧
 ((!true) = false ∧ True → (itD (3 : Nat) (3 : Int) (A3 i.fst i.snd.snd.snd i.snd.fst i.snd.snd.fst)).len ≤ (1000 : Nat)) ∧
 ((!true ||
 !nrightP (A3 i.fst i.snd.snd.snd i.snd.fst i.snd.snd.fst).fst
 (itD (3 : Nat) (3 : Int) (A3 i.fst i.snd.snd.snd i.snd.fst i.snd.snd.fst)) (3 : Int)
 (A3 i.fst i.snd.snd.snd i.snd.fst i.snd.snd.fst).fst (A3 i.fst i.snd.snd.snd i.snd.fst i.snd.snd.fst).snd) =
 false ∧
 True →
 Sm (B4 i.fst i.snd.snd.snd i.snd.fst i.snd.snd.fst).snd) ∧
 ((!true ||
 !nrightP (A3 i.fst i.snd.snd.snd i.snd.fst i.snd.snd.fst).fst
 (itD (3 : Nat) (3 : Int) (A3 i.fst i.snd.snd.snd i.snd.fst i.snd.snd.fst)) (3 : Int)
 (A3 i.fst i.snd.snd.snd i.snd.fst i.snd.snd.fst).fst (A3 i.fst i.snd.snd.snd i.snd.fst i.snd.snd.fst).snd) =
 false ∧
 True →
 (itD (3 : Nat) (3 : Int) (B4 i.fst i.snd.snd.snd i.snd.fst i.snd.snd.fst)).len ≤ (1000 : Nat)) ∧
 ((!true ||
 !nrightP (A3 i.fst i.snd.snd.snd i.snd.fst i.snd.snd.fst).fst
 (itD (3 : Nat) (3 : Int) (A3 i.fst i.snd.snd.snd i.snd.fst i.snd.snd.fst)) (3 : Int)
 (A3 i.fst i.snd.snd.snd i.snd.fst i.snd.snd.fst).fst
 (A3 i.fst i.snd.snd.snd i.snd.fst i.snd.snd.fst).snd ||
 !nrightP (B4 i.fst i.snd.snd.snd i.snd.fst i.snd.snd.fst).fst
 (itD (3 : Nat) (3 : Int) (B4 i.fst i.snd.snd.snd i.snd.fst i.snd.snd.fst)) (3 : Int)
 (B4 i.fst i.snd.snd.snd i.snd.fst i.snd.snd.fst).fst
 (B4 i.fst i.snd.snd.snd i.snd.fst i.snd.snd.fst).snd ||
 (↑(itD (3 : Nat) (3 : Int) (A3 i.fst i.snd.snd.snd i.snd.fst i.snd.snd.fst)).len : Int) != (3 : Int) ||
 (↑(itD (3 : Nat) (3 : Int) (B4 i.fst i.snd.snd.snd i.snd.fst i.snd.snd.fst)).len : Int) != (3 : Int)) =
 true →
 false = true) ∧
 ((!true ||
 !nrightP (A3 i.fst i.snd.snd.snd i.snd.fst i.snd.snd.fst).fst
 (itD (3 : Nat) (3 : Int) (A3 i.fst i.snd.snd.snd i.snd.fst i.snd.snd.fst)) (3 : Int)
 (A3 i.fst i.snd.snd.snd i.snd.fst i.snd.snd.fst).fst
 (A3 i.fst i.snd.snd.snd i.snd.fst i.snd.snd.fst).snd ||
 !nrightP (B4 i.fst i.snd.snd.snd i.snd.fst i.snd.snd.fst).fst
 (itD (3 : Nat) (3 : Int) (B4 i.fst i.snd.snd.snd i.snd.fst i.snd.snd.fst)) (3 : Int)
 (B4 i.fst i.snd.snd.snd i.snd.fst i.snd.snd.fst).fst
 (B4 i.fst i.snd.snd.snd i.snd.fst i.snd.snd.fst).snd ||
 (↑(itD (3 : Nat) (3 : Int) (A3 i.fst i.snd.snd.snd i.snd.fst i.snd.snd.fst)).len : Int) != (3 : Int) ||
 (↑(itD (3 : Nat) (3 : Int) (B4 i.fst i.snd.snd.snd i.snd.fst i.snd.snd.fst)).len : Int) != (3 : Int)) =
 false →
 (∃ (i_2 : Nat),
 i_2.le (3 : Nat) ∧
 (0 : Int) = (↑i_2 : Int) ∧
 i.fst = i.fst ∧
 i.snd.fst = i.snd.fst ∧
 i.snd.snd.fst = i.snd.snd.fst ∧
 i.snd.snd.snd = i.snd.snd.snd ∧
 (A3 i.fst i.snd.snd.snd i.snd.fst i.snd.snd.fst).fst =
 (A3 i.fst i.snd.snd.snd i.snd.fst i.snd.snd.fst).fst ∧
 List.map
 (fun (j : Nat) =>
 [D.i
 (itvLo (3 : Int) (A3 i.fst i.snd.snd.snd i.snd.fst i.snd.snd.fst).fst
 (A3 i.fst i.snd.snd.snd i.snd.fst i.snd.snd.fst).snd (↑j : Int)),
 D.i
 (itvHi (3 : Int) (A3 i.fst i.snd.snd.snd i.snd.fst i.snd.snd.fst).fst
 (A3 i.fst i.snd.snd.snd i.snd.fst i.snd.snd.fst).snd (↑j : Int))])
 (List.range (3 : Nat)) =
 List.map
 (fun (j : Nat) =>
 [D.i
 (itvLo (3 : Int) (A3 i.fst i.snd.snd.snd i.snd.fst i.snd.snd.fst).fst
 (A3 i.fst i.snd.snd.snd i.snd.fst i.snd.snd.fst).snd (↑j : Int)),
 D.i
 (itvHi (3 : Int) (A3 i.fst i.snd.snd.snd i.snd.fst i.snd.snd.fst).fst
 (A3 i.fst i.snd.snd.snd i.snd.fst i.snd.snd.fst).snd (↑j : Int))])
 (List.range (3 : Nat)) ∧
 (3 : Int) = (3 : Int) ∧
 (A3 i.fst i.snd.snd.snd i.snd.fst i.snd.snd.fst).fst =
 (A3 i.fst i.snd.snd.snd i.snd.fst i.snd.snd.fst).fst ∧
 (∀ (o : Nat),
 o < nat_lit 49 →
 (A3 i.fst i.snd.snd.snd i.snd.fst i.snd.snd.fst).snd o =
 (A3 i.fst i.snd.snd.snd i.snd.fst i.snd.snd.fst).snd o) ∧
 (B4 i.fst i.snd.snd.snd i.snd.fst i.snd.snd.fst).fst =
 (B4 i.fst i.snd.snd.snd i.snd.fst i.snd.snd.fst).fst ∧
 List.map
 (fun (j : Nat) =>
 [D.i
 (itvLo (3 : Int) (B4 i.fst i.snd.snd.snd i.snd.fst i.snd.snd.fst).fst
 (B4 i.fst i.snd.snd.snd i.snd.fst i.snd.snd.fst).snd (↑j : Int)),
 D.i
 (itvHi (3 : Int) (B4 i.fst i.snd.snd.snd i.snd.fst i.snd.snd.fst).fst
 (B4 i.fst i.snd.snd.snd i.snd.fst i.snd.snd.fst).snd (↑j : Int))])
 (List.range (3 : Nat)) =
 List.map
 (fun (j : Nat) =>
 [D.i
 (itvLo (3 : Int) (B4 i.fst i.snd.snd.snd i.snd.fst i.snd.snd.fst).fst
 (B4 i.fst i.snd.snd.snd i.snd.fst i.snd.snd.fst).snd (↑j : Int)),
 D.i
 (itvHi (3 : Int) (B4 i.fst i.snd.snd.snd i.snd.fst i.snd.snd.fst).fst
 (B4 i.fst i.snd.snd.snd i.snd.fst i.snd.snd.fst).snd (↑j : Int))])
 (List.range (3 : Nat)) ∧
 (3 : Int) = (3 : Int) ∧
 (B4 i.fst i.snd.snd.snd i.snd.fst i.snd.snd.fst).fst =
 (B4 i.fst i.snd.snd.snd i.snd.fst i.snd.snd.fst).fst ∧
 ∀ (o : Nat),
 o < nat_lit 49 →
 (B4 i.fst i.snd.snd.snd i.snd.fst i.snd.snd.fst).snd o =
 (B4 i.fst i.snd.snd.snd i.snd.fst i.snd.snd.fst).snd o) ∧
 ∀ (i_2 : Nat),
 i_2.le (3 : Nat) →
 (decide ((↑i_2 : Int) < (3 : Int)) = true →
 ((0 : Int) ≤ (↑i_2 : Int) ∧
 (↑i_2 : Int) <
 (↑(itD (3 : Nat) (3 : Int) (A3 i.fst i.snd.snd.snd i.snd.fst i.snd.snd.fst)).len : Int)) ∧
 Sm (A3 i.fst i.snd.snd.snd i.snd.fst i.snd.snd.fst).snd ∧
 ((!(((itD (3 : Nat) (3 : Int) (A3 i.fst i.snd.snd.snd i.snd.fst i.snd.snd.fst)).el (↑i_2 : Int).toNat
 (0 : Nat)).toI ==
 itvLo (3 : Int) (A3 i.fst i.snd.snd.snd i.snd.fst i.snd.snd.fst).fst
 (A3 i.fst i.snd.snd.snd i.snd.fst i.snd.snd.fst).snd (↑i_2 : Int) &&
 (((itD (3 : Nat) (3 : Int) (A3 i.fst i.snd.snd.snd i.snd.fst i.snd.snd.fst)).el
 (↑i_2 : Int).toNat ((0 : Nat) + (1 : Nat))).toI ==
 itvHi (3 : Int) (A3 i.fst i.snd.snd.snd i.snd.fst i.snd.snd.fst).fst
 (A3 i.fst i.snd.snd.snd i.snd.fst i.snd.snd.fst).snd (↑i_2 : Int) &&
 true))) =
 false ∧
 True →
 (0 : Int) ≤ (↑i_2 : Int) ∧
 (↑i_2 : Int) <
 (↑(itD (3 : Nat) (3 : Int) (B4 i.fst i.snd.snd.snd i.snd.fst i.snd.snd.fst)).len : Int)) ∧
 ((!(((itD (3 : Nat) (3 : Int) (A3 i.fst i.snd.snd.snd i.snd.fst i.snd.snd.fst)).el (↑i_2 : Int).toNat
 (0 : Nat)).toI ==
 itvLo (3 : Int) (A3 i.fst i.snd.snd.snd i.snd.fst i.snd.snd.fst).fst
 (A3 i.fst i.snd.snd.snd i.snd.fst i.snd.snd.fst).snd (↑i_2 : Int) &&
 (((itD (3 : Nat) (3 : Int) (A3 i.fst i.snd.snd.snd i.snd.fst i.snd.snd.fst)).el
 (↑i_2 : Int).toNat ((0 : Nat) + (1 : Nat))).toI ==
 itvHi (3 : Int) (A3 i.fst i.snd.snd.snd i.snd.fst i.snd.snd.fst).fst
 (A3 i.fst i.snd.snd.snd i.snd.fst i.snd.snd.fst).snd (↑i_2 : Int) &&
 true))) =
 false ∧
 True →
 (0 : Int) ≤ (↑i_2 : Int) ∧
 (↑i_2 : Int) <
 (↑(itD (3 : Nat) (3 : Int) (B4 i.fst i.snd.snd.snd i.snd.fst i.snd.snd.fst)).len : Int)) ∧
 ((!(((itD (3 : Nat) (3 : Int) (A3 i.fst i.snd.snd.snd i.snd.fst i.snd.snd.fst)).el
 (↑i_2 : Int).toNat (0 : Nat)).toI ==
 itvLo (3 : Int) (A3 i.fst i.snd.snd.snd i.snd.fst i.snd.snd.fst).fst
 (A3 i.fst i.snd.snd.snd i.snd.fst i.snd.snd.fst).snd (↑i_2 : Int) &&
 (((itD (3 : Nat) (3 : Int) (A3 i.fst i.snd.snd.snd i.snd.fst i.snd.snd.fst)).el
 (↑i_2 : Int).toNat ((0 : Nat) + (1 : Nat))).toI ==
 itvHi (3 : Int) (A3 i.fst i.snd.snd.snd i.snd.fst i.snd.snd.fst).fst
 (A3 i.fst i.snd.snd.snd i.snd.fst i.snd.snd.fst).snd (↑i_2 : Int) &&
 true)) ||
 ((itD (3 : Nat) (3 : Int) (B4 i.fst i.snd.snd.snd i.snd.fst i.snd.snd.fst)).el
 (↑i_2 : Int).toNat ((0 : Nat) + (0 : Nat))).toI !=
 ((itD (3 : Nat) (3 : Int) (B4 i.fst i.snd.snd.snd i.snd.fst i.snd.snd.fst)).el
 (↑i_2 : Int).toNat ((0 : Nat) + (1 : Nat))).toI) =
 true →
 false = true) ∧
 ((!(((itD (3 : Nat) (3 : Int) (A3 i.fst i.snd.snd.snd i.snd.fst i.snd.snd.fst)).el
 (↑i_2 : Int).toNat (0 : Nat)).toI ==
 itvLo (3 : Int) (A3 i.fst i.snd.snd.snd i.snd.fst i.snd.snd.fst).fst
 (A3 i.fst i.snd.snd.snd i.snd.fst i.snd.snd.fst).snd (↑i_2 : Int) &&
 (((itD (3 : Nat) (3 : Int) (A3 i.fst i.snd.snd.snd i.snd.fst i.snd.snd.fst)).el
 (↑i_2 : Int).toNat ((0 : Nat) + (1 : Nat))).toI ==
 itvHi (3 : Int) (A3 i.fst i.snd.snd.snd i.snd.fst i.snd.snd.fst).fst
 (A3 i.fst i.snd.snd.snd i.snd.fst i.snd.snd.fst).snd (↑i_2 : Int) &&
 true)) ||
 ((itD (3 : Nat) (3 : Int) (B4 i.fst i.snd.snd.snd i.snd.fst i.snd.snd.fst)).el
 (↑i_2 : Int).toNat ((0 : Nat) + (0 : Nat))).toI !=
 ((itD (3 : Nat) (3 : Int) (B4 i.fst i.snd.snd.snd i.snd.fst i.snd.snd.fst)).el
 (↑i_2 : Int).toNat ((0 : Nat) + (1 : Nat))).toI) =
 false →
 ∃ (j : Nat),
 j.le (3 : Nat) ∧
 (9 : Nat) - j < (9 : Nat) - i_2 ∧
 IntKind.i64.wrap ((↑i_2 : Int) + (1 : Int)) = (↑j : Int) ∧
 i.fst = i.fst ∧
 i.snd.fst = i.snd.fst ∧
 i.snd.snd.fst = i.snd.snd.fst ∧
 i.snd.snd.snd = i.snd.snd.snd ∧
 (A3 i.fst i.snd.snd.snd i.snd.fst i.snd.snd.fst).fst =
 (A3 i.fst i.snd.snd.snd i.snd.fst i.snd.snd.fst).fst ∧
 List.map
 (fun (j : Nat) =>
 [D.i
 (itvLo (3 : Int)
 (A3 i.fst i.snd.snd.snd i.snd.fst i.snd.snd.fst).fst
 (A3 i.fst i.snd.snd.snd i.snd.fst i.snd.snd.fst).snd
 (↑j : Int)),
 D.i
 (itvHi (3 : Int)
 (A3 i.fst i.snd.snd.snd i.snd.fst i.snd.snd.fst).fst
 (A3 i.fst i.snd.snd.snd i.snd.fst i.snd.snd.fst).snd
 (↑j : Int))])
 (List.range (3 : Nat)) =
 List.map
 (fun (j : Nat) =>
 [D.i
 (itvLo (3 : Int)
 (A3 i.fst i.snd.snd.snd i.snd.fst i.snd.snd.fst).fst
 (A3 i.fst i.snd.snd.snd i.snd.fst i.snd.snd.fst).snd
 (↑j : Int)),
 D.i
 (itvHi (3 : Int)
 (A3 i.fst i.snd.snd.snd i.snd.fst i.snd.snd.fst).fst
 (A3 i.fst i.snd.snd.snd i.snd.fst i.snd.snd.fst).snd
 (↑j : Int))])
 (List.range (3 : Nat)) ∧
 (3 : Int) = (3 : Int) ∧
 (A3 i.fst i.snd.snd.snd i.snd.fst i.snd.snd.fst).fst =
 (A3 i.fst i.snd.snd.snd i.snd.fst i.snd.snd.fst).fst ∧
 (∀ (o : Nat),
 o < nat_lit 49 →
 (A3 i.fst i.snd.snd.snd i.snd.fst i.snd.snd.fst).snd o =
 (A3 i.fst i.snd.snd.snd i.snd.fst i.snd.snd.fst).snd o) ∧
 (B4 i.fst i.snd.snd.snd i.snd.fst i.snd.snd.fst).fst =
 (B4 i.fst i.snd.snd.snd i.snd.fst i.snd.snd.fst).fst ∧
 List.map
 (fun (j : Nat) =>
 [D.i
 (itvLo (3 : Int)
 (B4 i.fst i.snd.snd.snd i.snd.fst i.snd.snd.fst).fst
 (B4 i.fst i.snd.snd.snd i.snd.fst i.snd.snd.fst).snd
 (↑j : Int)),
 D.i
 (itvHi (3 : Int)
 (B4 i.fst i.snd.snd.snd i.snd.fst i.snd.snd.fst).fst
 (B4 i.fst i.snd.snd.snd i.snd.fst i.snd.snd.fst).snd
 (↑j : Int))])
 (List.range (3 : Nat)) =
 List.map
 (fun (j : Nat) =>
 [D.i
 (itvLo (3 : Int)
 (B4 i.fst i.snd.snd.snd i.snd.fst i.snd.snd.fst).fst
 (B4 i.fst i.snd.snd.snd i.snd.fst i.snd.snd.fst).snd
 (↑j : Int)),
 D.i
 (itvHi (3 : Int)
 (B4 i.fst i.snd.snd.snd i.snd.fst i.snd.snd.fst).fst
 (B4 i.fst i.snd.snd.snd i.snd.fst i.snd.snd.fst).snd
 (↑j : Int))])
 (List.range (3 : Nat)) ∧
 (3 : Int) = (3 : Int) ∧
 (B4 i.fst i.snd.snd.snd i.snd.fst i.snd.snd.fst).fst =
 (B4 i.fst i.snd.snd.snd i.snd.fst i.snd.snd.fst).fst ∧
 ∀ (o : Nat),
 o < nat_lit 49 →
 (B4 i.fst i.snd.snd.snd i.snd.fst i.snd.snd.fst).snd o =
 (B4 i.fst i.snd.snd.snd i.snd.fst i.snd.snd.fst).snd
 o)) ∧
 (decide ((↑i_2 : Int) < (3 : Int)) = false →
 nat_lit 2 < (itD (3 : Nat) (3 : Int) (A3 i.fst i.snd.snd.snd i.snd.fst i.snd.snd.fst)).len ∧
 ((itvLo (3 : Int) (A3 i.fst i.snd.snd.snd i.snd.fst i.snd.snd.fst).fst
 (A3 i.fst i.snd.snd.snd i.snd.fst i.snd.snd.fst).snd (↑(nat_lit 2) : Int) ==
 ofLo (IntKind.i64.wrap (IntKind.i64.wrap (i.fst + i.snd.fst) + i.snd.snd.fst))
 (IntKind.i64.wrap (IntKind.i64.wrap (i.snd.snd.snd + i.snd.fst) + i.snd.snd.fst)) &&
 (itvHi (3 : Int) (A3 i.fst i.snd.snd.snd i.snd.fst i.snd.snd.fst).fst
 (A3 i.fst i.snd.snd.snd i.snd.fst i.snd.snd.fst).snd (↑(nat_lit 2) : Int) ==
 ofHi (IntKind.i64.wrap (IntKind.i64.wrap (i.fst + i.snd.fst) + i.snd.snd.fst))
 (IntKind.i64.wrap (IntKind.i64.wrap (i.snd.snd.snd + i.snd.fst) + i.snd.snd.fst)) &&
 true)) =
 true ∧
 True →
 nat_lit 0 < (itD (3 : Nat) (3 : Int) (B4 i.fst i.snd.snd.snd i.snd.fst i.snd.snd.fst)).len) ∧
 (itvLo (3 : Int) (A3 i.fst i.snd.snd.snd i.snd.fst i.snd.snd.fst).fst
 (A3 i.fst i.snd.snd.snd i.snd.fst i.snd.snd.fst).snd (↑(nat_lit 2) : Int) ==
 ofLo (IntKind.i64.wrap (IntKind.i64.wrap (i.fst + i.snd.fst) + i.snd.snd.fst))
 (IntKind.i64.wrap (IntKind.i64.wrap (i.snd.snd.snd + i.snd.fst) + i.snd.snd.fst)) &&
 (itvHi (3 : Int) (A3 i.fst i.snd.snd.snd i.snd.fst i.snd.snd.fst).fst
 (A3 i.fst i.snd.snd.snd i.snd.fst i.snd.snd.fst).snd (↑(nat_lit 2) : Int) ==
 ofHi (IntKind.i64.wrap (IntKind.i64.wrap (i.fst + i.snd.fst) + i.snd.snd.fst))
 (IntKind.i64.wrap (IntKind.i64.wrap (i.snd.snd.snd + i.snd.fst) + i.snd.snd.fst)) &&
 true) &&
 (itvLo (3 : Int) (B4 i.fst i.snd.snd.snd i.snd.fst i.snd.snd.fst).fst
 (B4 i.fst i.snd.snd.snd i.snd.fst i.snd.snd.fst).snd (↑(nat_lit 0) : Int) ==
 ofLo i.snd.snd.snd i.snd.snd.snd &&
 (itvHi (3 : Int) (B4 i.fst i.snd.snd.snd i.snd.fst i.snd.snd.fst).fst
 (B4 i.fst i.snd.snd.snd i.snd.fst i.snd.snd.fst).snd (↑(nat_lit 0) : Int) ==
 ofHi i.snd.snd.snd i.snd.snd.snd &&
 true)) &&
 withinP (3 : Int) (B4 i.fst i.snd.snd.snd i.snd.fst i.snd.snd.fst).fst
 (B4 i.fst i.snd.snd.snd i.snd.fst i.snd.snd.fst).snd (3 : Int)
 (A3 i.fst i.snd.snd.snd i.snd.fst i.snd.snd.fst).fst
 (A3 i.fst i.snd.snd.snd i.snd.fst i.snd.snd.fst).snd) =
 true ∧
 ((itvLo (3 : Int) (A3 i.fst i.snd.snd.snd i.snd.fst i.snd.snd.fst).fst
 (A3 i.fst i.snd.snd.snd i.snd.fst i.snd.snd.fst).snd (↑(nat_lit 2) : Int) ==
 ofLo (IntKind.i64.wrap (IntKind.i64.wrap (i.fst + i.snd.fst) + i.snd.snd.fst))
 (IntKind.i64.wrap (IntKind.i64.wrap (i.snd.snd.snd + i.snd.fst) + i.snd.snd.fst)) &&
 (itvHi (3 : Int) (A3 i.fst i.snd.snd.snd i.snd.fst i.snd.snd.fst).fst
 (A3 i.fst i.snd.snd.snd i.snd.fst i.snd.snd.fst).snd (↑(nat_lit 2) : Int) ==
 ofHi (IntKind.i64.wrap (IntKind.i64.wrap (i.fst + i.snd.fst) + i.snd.snd.fst))
 (IntKind.i64.wrap
 (IntKind.i64.wrap (i.snd.snd.snd + i.snd.fst) + i.snd.snd.fst)) &&
 true) &&
 (itvLo (3 : Int) (B4 i.fst i.snd.snd.snd i.snd.fst i.snd.snd.fst).fst
 (B4 i.fst i.snd.snd.snd i.snd.fst i.snd.snd.fst).snd (↑(nat_lit 0) : Int) ==
 ofLo i.snd.snd.snd i.snd.snd.snd &&
 (itvHi (3 : Int) (B4 i.fst i.snd.snd.snd i.snd.fst i.snd.snd.fst).fst
 (B4 i.fst i.snd.snd.snd i.snd.fst i.snd.snd.fst).snd (↑(nat_lit 0) : Int) ==
 ofHi i.snd.snd.snd i.snd.snd.snd &&
 true)) &&
 withinP (3 : Int) (B4 i.fst i.snd.snd.snd i.snd.fst i.snd.snd.fst).fst
 (B4 i.fst i.snd.snd.snd i.snd.fst i.snd.snd.fst).snd (3 : Int)
 (A3 i.fst i.snd.snd.snd i.snd.fst i.snd.snd.fst).fst
 (A3 i.fst i.snd.snd.snd i.snd.fst i.snd.snd.fst).snd) =
 true ∧
 True →
 (0 : Nat) + (3 : Nat) ≤
 (D.l
 [[D.i i.fst], [D.i (IntKind.i64.wrap (i.fst + i.snd.fst))],
 [D.i (IntKind.i64.wrap (IntKind.i64.wrap (i.fst + i.snd.fst) + i.snd.snd.fst))]]).len) ∧
 ((itvLo (3 : Int) (A3 i.fst i.snd.snd.snd i.snd.fst i.snd.snd.fst).fst
 (A3 i.fst i.snd.snd.snd i.snd.fst i.snd.snd.fst).snd (↑(nat_lit 2) : Int) ==
 ofLo (IntKind.i64.wrap (IntKind.i64.wrap (i.fst + i.snd.fst) + i.snd.snd.fst))
 (IntKind.i64.wrap
 (IntKind.i64.wrap (i.snd.snd.snd + i.snd.fst) + i.snd.snd.fst)) &&
 (itvHi (3 : Int) (A3 i.fst i.snd.snd.snd i.snd.fst i.snd.snd.fst).fst
 (A3 i.fst i.snd.snd.snd i.snd.fst i.snd.snd.fst).snd (↑(nat_lit 2) : Int) ==
 ofHi (IntKind.i64.wrap (IntKind.i64.wrap (i.fst + i.snd.fst) + i.snd.snd.fst))
 (IntKind.i64.wrap
 (IntKind.i64.wrap (i.snd.snd.snd + i.snd.fst) + i.snd.snd.fst)) &&
 true) &&
 (itvLo (3 : Int) (B4 i.fst i.snd.snd.snd i.snd.fst i.snd.snd.fst).fst
 (B4 i.fst i.snd.snd.snd i.snd.fst i.snd.snd.fst).snd (↑(nat_lit 0) : Int) ==
 ofLo i.snd.snd.snd i.snd.snd.snd &&
 (itvHi (3 : Int) (B4 i.fst i.snd.snd.snd i.snd.fst i.snd.snd.fst).fst
 (B4 i.fst i.snd.snd.snd i.snd.fst i.snd.snd.fst).snd (↑(nat_lit 0) : Int) ==
 ofHi i.snd.snd.snd i.snd.snd.snd &&
 true)) &&
 withinP (3 : Int) (B4 i.fst i.snd.snd.snd i.snd.fst i.snd.snd.fst).fst
 (B4 i.fst i.snd.snd.snd i.snd.fst i.snd.snd.fst).snd (3 : Int)
 (A3 i.fst i.snd.snd.snd i.snd.fst i.snd.snd.fst).fst
 (A3 i.fst i.snd.snd.snd i.snd.fst i.snd.snd.fst).snd) =
 true ∧
 True →
 (itD (3 : Nat) (3 : Int) (A3 i.fst i.snd.snd.snd i.snd.fst i.snd.snd.fst)).len ≤ (1000 : Nat)) ∧
 (itvLo (3 : Int) (A3 i.fst i.snd.snd.snd i.snd.fst i.snd.snd.fst).fst
 (A3 i.fst i.snd.snd.snd i.snd.fst i.snd.snd.fst).snd (↑(nat_lit 2) : Int) ==
 ofLo (IntKind.i64.wrap (IntKind.i64.wrap (i.fst + i.snd.fst) + i.snd.snd.fst))
 (IntKind.i64.wrap
 (IntKind.i64.wrap (i.snd.snd.snd + i.snd.fst) + i.snd.snd.fst)) &&
 (itvHi (3 : Int) (A3 i.fst i.snd.snd.snd i.snd.fst i.snd.snd.fst).fst
 (A3 i.fst i.snd.snd.snd i.snd.fst i.snd.snd.fst).snd (↑(nat_lit 2) : Int) ==
 ofHi (IntKind.i64.wrap (IntKind.i64.wrap (i.fst + i.snd.fst) + i.snd.snd.fst))
 (IntKind.i64.wrap
 (IntKind.i64.wrap (i.snd.snd.snd + i.snd.fst) + i.snd.snd.fst)) &&
 true) &&
 (itvLo (3 : Int) (B4 i.fst i.snd.snd.snd i.snd.fst i.snd.snd.fst).fst
 (B4 i.fst i.snd.snd.snd i.snd.fst i.snd.snd.fst).snd (↑(nat_lit 0) : Int) ==
 ofLo i.snd.snd.snd i.snd.snd.snd &&
 (itvHi (3 : Int) (B4 i.fst i.snd.snd.snd i.snd.fst i.snd.snd.fst).fst
 (B4 i.fst i.snd.snd.snd i.snd.fst i.snd.snd.fst).snd (↑(nat_lit 0) : Int) ==
 ofHi i.snd.snd.snd i.snd.snd.snd &&
 true)) &&
 withinP (3 : Int) (B4 i.fst i.snd.snd.snd i.snd.fst i.snd.snd.fst).fst
 (B4 i.fst i.snd.snd.snd i.snd.fst i.snd.snd.fst).snd (3 : Int)
 (A3 i.fst i.snd.snd.snd i.snd.fst i.snd.snd.fst).fst
 (A3 i.fst i.snd.snd.snd i.snd.fst i.snd.snd.fst).snd &&
 nhasP (A3 i.fst i.snd.snd.snd i.snd.fst i.snd.snd.fst).fst
 (itD (3 : Nat) (3 : Int) (A3 i.fst i.snd.snd.snd i.snd.fst i.snd.snd.fst)) (3 : Int)
 (A3 i.fst i.snd.snd.snd i.snd.fst i.snd.snd.fst).fst
 (A3 i.fst i.snd.snd.snd i.snd.fst i.snd.snd.fst).snd
 ((D.l
 [[D.i i.fst], [D.i (IntKind.i64.wrap (i.fst + i.snd.fst))],
 [D.i
 (IntKind.i64.wrap
 (IntKind.i64.wrap (i.fst + i.snd.fst) + i.snd.snd.fst))]]).sub
 (0 : Nat) ((0 : Nat) + (3 : Nat)))) =
 true ∧
 ((itvLo (3 : Int) (A3 i.fst i.snd.snd.snd i.snd.fst i.snd.snd.fst).fst
 (A3 i.fst i.snd.snd.snd i.snd.fst i.snd.snd.fst).snd (↑(nat_lit 2) : Int) ==
 ofLo (IntKind.i64.wrap (IntKind.i64.wrap (i.fst + i.snd.fst) + i.snd.snd.fst))
 (IntKind.i64.wrap
 (IntKind.i64.wrap (i.snd.snd.snd + i.snd.fst) + i.snd.snd.fst)) &&
 (itvHi (3 : Int) (A3 i.fst i.snd.snd.snd i.snd.fst i.snd.snd.fst).fst
 (A3 i.fst i.snd.snd.snd i.snd.fst i.snd.snd.fst).snd
 (↑(nat_lit 2) : Int) ==
 ofHi
 (IntKind.i64.wrap (IntKind.i64.wrap (i.fst + i.snd.fst) + i.snd.snd.fst))
 (IntKind.i64.wrap
 (IntKind.i64.wrap (i.snd.snd.snd + i.snd.fst) + i.snd.snd.fst)) &&
 true) &&
 (itvLo (3 : Int) (B4 i.fst i.snd.snd.snd i.snd.fst i.snd.snd.fst).fst
 (B4 i.fst i.snd.snd.snd i.snd.fst i.snd.snd.fst).snd (↑(nat_lit 0) : Int) ==
 ofLo i.snd.snd.snd i.snd.snd.snd &&
 (itvHi (3 : Int) (B4 i.fst i.snd.snd.snd i.snd.fst i.snd.snd.fst).fst
 (B4 i.fst i.snd.snd.snd i.snd.fst i.snd.snd.fst).snd
 (↑(nat_lit 0) : Int) ==
 ofHi i.snd.snd.snd i.snd.snd.snd &&
 true)) &&
 withinP (3 : Int) (B4 i.fst i.snd.snd.snd i.snd.fst i.snd.snd.fst).fst
 (B4 i.fst i.snd.snd.snd i.snd.fst i.snd.snd.fst).snd (3 : Int)
 (A3 i.fst i.snd.snd.snd i.snd.fst i.snd.snd.fst).fst
 (A3 i.fst i.snd.snd.snd i.snd.fst i.snd.snd.fst).snd &&
 nhasP (A3 i.fst i.snd.snd.snd i.snd.fst i.snd.snd.fst).fst
 (itD (3 : Nat) (3 : Int) (A3 i.fst i.snd.snd.snd i.snd.fst i.snd.snd.fst)) (3 : Int)
 (A3 i.fst i.snd.snd.snd i.snd.fst i.snd.snd.fst).fst
 (A3 i.fst i.snd.snd.snd i.snd.fst i.snd.snd.fst).snd
 ((D.l
 [[D.i i.fst], [D.i (IntKind.i64.wrap (i.fst + i.snd.fst))],
 [D.i
 (IntKind.i64.wrap
 (IntKind.i64.wrap (i.fst + i.snd.fst) + i.snd.snd.fst))]]).sub
 (0 : Nat) ((0 : Nat) + (3 : Nat)))) =
 true ∧
 True →
 (0 : Nat) + (3 : Nat) ≤
 (D.l
 [[D.i i.fst], [D.i (IntKind.i64.wrap (i.fst + i.snd.fst))],
 [D.i
 (IntKind.i64.wrap
 (IntKind.i64.wrap (IntKind.i64.wrap (i.fst + i.snd.fst) + i.snd.snd.fst) +
 (1 : Int)))]]).len) ∧
 ((itvLo (3 : Int) (A3 i.fst i.snd.snd.snd i.snd.fst i.snd.snd.fst).fst
 (A3 i.fst i.snd.snd.snd i.snd.fst i.snd.snd.fst).snd
 (↑(nat_lit 2) : Int) ==
 ofLo
 (IntKind.i64.wrap (IntKind.i64.wrap (i.fst + i.snd.fst) + i.snd.snd.fst))
 (IntKind.i64.wrap
 (IntKind.i64.wrap (i.snd.snd.snd + i.snd.fst) + i.snd.snd.fst)) &&
 (itvHi (3 : Int) (A3 i.fst i.snd.snd.snd i.snd.fst i.snd.snd.fst).fst
 (A3 i.fst i.snd.snd.snd i.snd.fst i.snd.snd.fst).snd
 (↑(nat_lit 2) : Int) ==
 ofHi
 (IntKind.i64.wrap
 (IntKind.i64.wrap (i.fst + i.snd.fst) + i.snd.snd.fst))
 (IntKind.i64.wrap
 (IntKind.i64.wrap (i.snd.snd.snd + i.snd.fst) + i.snd.snd.fst)) &&
 true) &&
 (itvLo (3 : Int) (B4 i.fst i.snd.snd.snd i.snd.fst i.snd.snd.fst).fst
 (B4 i.fst i.snd.snd.snd i.snd.fst i.snd.snd.fst).snd
 (↑(nat_lit 0) : Int) ==
 ofLo i.snd.snd.snd i.snd.snd.snd &&
 (itvHi (3 : Int) (B4 i.fst i.snd.snd.snd i.snd.fst i.snd.snd.fst).fst
 (B4 i.fst i.snd.snd.snd i.snd.fst i.snd.snd.fst).snd
 (↑(nat_lit 0) : Int) ==
 ofHi i.snd.snd.snd i.snd.snd.snd &&
 true)) &&
 withinP (3 : Int) (B4 i.fst i.snd.snd.snd i.snd.fst i.snd.snd.fst).fst
 (B4 i.fst i.snd.snd.snd i.snd.fst i.snd.snd.fst).snd (3 : Int)
 (A3 i.fst i.snd.snd.snd i.snd.fst i.snd.snd.fst).fst
 (A3 i.fst i.snd.snd.snd i.snd.fst i.snd.snd.fst).snd &&
 nhasP (A3 i.fst i.snd.snd.snd i.snd.fst i.snd.snd.fst).fst
 (itD (3 : Nat) (3 : Int) (A3 i.fst i.snd.snd.snd i.snd.fst i.snd.snd.fst))
 (3 : Int) (A3 i.fst i.snd.snd.snd i.snd.fst i.snd.snd.fst).fst
 (A3 i.fst i.snd.snd.snd i.snd.fst i.snd.snd.fst).snd
 ((D.l
 [[D.i i.fst], [D.i (IntKind.i64.wrap (i.fst + i.snd.fst))],
 [D.i
 (IntKind.i64.wrap
 (IntKind.i64.wrap (i.fst + i.snd.fst) + i.snd.snd.fst))]]).sub
 (0 : Nat) ((0 : Nat) + (3 : Nat)))) =
 true ∧
 True →
 (itD (3 : Nat) (3 : Int) (A3 i.fst i.snd.snd.snd i.snd.fst i.snd.snd.fst)).len ≤
 (1000 : Nat)) ∧
 (itvLo (3 : Int) (A3 i.fst i.snd.snd.snd i.snd.fst i.snd.snd.fst).fst
 (A3 i.fst i.snd.snd.snd i.snd.fst i.snd.snd.fst).snd (↑(nat_lit 2) : Int) ==
 ofLo (IntKind.i64.wrap (IntKind.i64.wrap (i.fst + i.snd.fst) + i.snd.snd.fst))
 (IntKind.i64.wrap
 (IntKind.i64.wrap (i.snd.snd.snd + i.snd.fst) + i.snd.snd.fst)) &&
 (itvHi (3 : Int) (A3 i.fst i.snd.snd.snd i.snd.fst i.snd.snd.fst).fst
 (A3 i.fst i.snd.snd.snd i.snd.fst i.snd.snd.fst).snd
 (↑(nat_lit 2) : Int) ==
 ofHi
 (IntKind.i64.wrap (IntKind.i64.wrap (i.fst + i.snd.fst) + i.snd.snd.fst))
 (IntKind.i64.wrap
 (IntKind.i64.wrap (i.snd.snd.snd + i.snd.fst) + i.snd.snd.fst)) &&
 true) &&
 (itvLo (3 : Int) (B4 i.fst i.snd.snd.snd i.snd.fst i.snd.snd.fst).fst
 (B4 i.fst i.snd.snd.snd i.snd.fst i.snd.snd.fst).snd (↑(nat_lit 0) : Int) ==
 ofLo i.snd.snd.snd i.snd.snd.snd &&
 (itvHi (3 : Int) (B4 i.fst i.snd.snd.snd i.snd.fst i.snd.snd.fst).fst
 (B4 i.fst i.snd.snd.snd i.snd.fst i.snd.snd.fst).snd
 (↑(nat_lit 0) : Int) ==
 ofHi i.snd.snd.snd i.snd.snd.snd &&
 true)) &&
 withinP (3 : Int) (B4 i.fst i.snd.snd.snd i.snd.fst i.snd.snd.fst).fst
 (B4 i.fst i.snd.snd.snd i.snd.fst i.snd.snd.fst).snd (3 : Int)
 (A3 i.fst i.snd.snd.snd i.snd.fst i.snd.snd.fst).fst
 (A3 i.fst i.snd.snd.snd i.snd.fst i.snd.snd.fst).snd &&
 nhasP (A3 i.fst i.snd.snd.snd i.snd.fst i.snd.snd.fst).fst
 (itD (3 : Nat) (3 : Int) (A3 i.fst i.snd.snd.snd i.snd.fst i.snd.snd.fst)) (3 : Int)
 (A3 i.fst i.snd.snd.snd i.snd.fst i.snd.snd.fst).fst
 (A3 i.fst i.snd.snd.snd i.snd.fst i.snd.snd.fst).snd
 ((D.l
 [[D.i i.fst], [D.i (IntKind.i64.wrap (i.fst + i.snd.fst))],
 [D.i
 (IntKind.i64.wrap
 (IntKind.i64.wrap (i.fst + i.snd.fst) + i.snd.snd.fst))]]).sub
 (0 : Nat) ((0 : Nat) + (3 : Nat))) &&
 !nhasP (A3 i.fst i.snd.snd.snd i.snd.fst i.snd.snd.fst).fst
 (itD (3 : Nat) (3 : Int) (A3 i.fst i.snd.snd.snd i.snd.fst i.snd.snd.fst)) (3 : Int)
 (A3 i.fst i.snd.snd.snd i.snd.fst i.snd.snd.fst).fst
 (A3 i.fst i.snd.snd.snd i.snd.fst i.snd.snd.fst).snd
 ((D.l
 [[D.i i.fst], [D.i (IntKind.i64.wrap (i.fst + i.snd.fst))],
 [D.i
 (IntKind.i64.wrap
 (IntKind.i64.wrap
 (IntKind.i64.wrap (i.fst + i.snd.fst) + i.snd.snd.fst) +
 (1 : Int)))]]).sub
 (0 : Nat) ((0 : Nat) + (3 : Nat)))) =
 true))) (by kernel_rfl) ?_
    simp only [raw0, true_and, and_true, implies_true, Nat.mul_one, Int.toNat_natCast, c7, decide_eq_true_eq, decide_eq_false_iff_not, Nat.zero_add, forall_const, Nat.le_eq, at_iff, bne_iff_ne, bne_eq_false_iff_eq, and_self, and_self_left, Nat.reduceAdd]
    intro hlo hsz hg
    have ht3 : topN 3 = 3 := rfl
    rw [ht3]
    simp only [itD_len]
    have t2 := tmod_1e5 lo
    have g0 := hg 0 (by omega)
    have g1 := hg 1 (by omega)
    refine ⟨⟨((IntKind.i64.wrap lo).tmod 100000, IntKind.i64.wrap (g 0), IntKind.i64.wrap (g 1), IntKind.i64.wrap ((IntKind.i64.wrap lo).tmod 100000 + IntKind.i64.wrap sz)), ?_, rfl, rfl, rfl, rfl⟩, fun q hq => ?_⟩
    · have e : IntKind.i64.wrap ((IntKind.i64.wrap lo).tmod 100000 + IntKind.i64.wrap sz) = (IntKind.i64.wrap lo).tmod 100000 + sz := by rw [wr sz (by omega), wr _ (by omega)]
      rw [e, wr (g 0) (by omega), wr (g 1) (by omega)]
      exact ⟨t2, g0, g1, by dsimp only; omega, by dsimp only; omega⟩
    obtain ⟨l, d, e, h⟩ := q
    obtain ⟨hl, hd, he, hh⟩ := hq
    dsimp only at hl hd he hh ⊢
    have hlh : -2147483648 ≤ l ∧ l ≤ h ∧ h ≤ 2147483647 := by omega
    have w1 : IntKind.i64.wrap (IntKind.i64.wrap (h + d) + e) = h + d + e := by rw [wr (h + d) (by omega), wr _ (by omega)]
    have w2 : IntKind.i64.wrap (IntKind.i64.wrap (l + d) + e) = l + d + e := by rw [wr (l + d) (by omega), wr _ (by omega)]
    have w3 : IntKind.i64.wrap (l + d) = l + d := wr _ (by omega)
    have w4 : IntKind.i64.wrap (l + d + e + 1) = l + d + e + 1 := wr _ (by omega)
    have o1 := of_lh hlh
    have o2 := of_lh (a := h + d + e) (b := h + d + e) (by omega)
    rw [o1.1, o1.2]
    simp only [w1, w2, w3, w4, o2.1, o2.2]
    refine ⟨top3_good, by decide, A1_good l h, by decide, A2_good l h d, by decide, ⟨A3_good l h d e, by decide, true, rfl, rfl, trivial, rfl, fun _ _ => rfl, rfl, rfl, trivial, rfl, fun _ _ => rfl⟩, ?_⟩
    have w5 : IntKind.i64.wrap (l + d + e) = l + d + e := wr _ (by omega)
    simp only [w5, w4]
    obtain ⟨gA, gB, rA, rB, wBA, nA, nB, i1, i2, i3, i4, bEq⟩ := jet_facts hl hd he hh
    generalize A3 l h d e = a at *
    generalize B4 l h d e = b at *
    have o3 := of_lh (a := l + d + e) (b := h + d + e) (by omega)
    have o4 := of_lh (a := h) (b := h) (by omega)
    simp only [rA, rB, wBA, nA, nB, i1, i2, i3, i4, o3.1, o3.2, o4.1, o4.2, w4]
    refine ⟨fun _ => gA.sm, fun _ => by omega, fun _ => gB.sm, fun _ => by omega, (fun h => by simp at h), fun _ => ⟨⟨0, by omega, rfl⟩, fun i hi => ⟨fun h3 => ?_, fun _ => ?_⟩⟩⟩
    · obtain ⟨e1, e2⟩ := itD_el (m := 3) (j := i) (by omega) 3 a
      obtain ⟨f1, f2⟩ := itD_el (m := 3) (j := i) (by omega) 3 b
      have fe := bEq i (by omega)
      rw [e1, e2, f1, f2, fe]
      exact ⟨⟨by omega, by omega⟩, gA.sm, fun _ => ⟨by omega, by omega⟩, (fun h => by simp at h), fun _ => ⟨i + 1, by omega, by omega, wr _ (by omega)⟩⟩
    · simp only [beq_self_eq_true, Bool.and_self, Bool.not_false]
      exact ⟨by omega, fun _ => by omega, trivial, fun _ => Nat.le_refl _, fun _ => by omega, trivial, fun _ => Nat.le_refl _, fun _ => by omega, trivial⟩
  · trivial
end Go.Proofs.Ytefdfggkhnahiaa.Sx.Z
