/-
  The laws' apply.
-/
import Derived.Test.YtbcbcambkjhhhaaProg
import Derived.Test.YtbcbcambkjhhhaaChecked
import Derived.Laws.Bits64
import Derived.IntWalk
import Derived.ChangeArms
import Derived.OpenShut
import Derived.WideShapes
import Derived.ChangeShapes
import Derived.Carry
import Derived.DataReads
import Derived.KernelRfl
import Derived.Deep.LoopGhost
import Derived.Laws.Append
import Derived.Laws.AppendOwn
import Derived.Laws.MakeOwn
import Derived.Laws.StructEq
import Derived.Laws.Cells
import Derived.Laws.CopyRow
import Derived.Laws.Rows
import Derived.Below
import Derived.Orders
import Derived.ChangeKeysEq
import Derived.Deep.CutRange
import Derived.WalkKit
import Derived.ProofKit
import Derived.Handy
import Derived.Lib.Hide
import Derived.Deep.WholeRow
import Derived.Deep.Cut
import Derived.Deep.RegionHeld3
import Derived.RegionTactic
import Derived.Test.YtbcbcambkjhhhaaMA
import Derived.Test.YtbcbcambkjhhhaaMB
import Derived.Test.YtbcbcambkjhhhaaMC
import Derived.Test.YtbcbcambkjhhhaaMD
import Derived.Test.YtbcbcambkjhhhaaME
import Derived.Test.YtbcbcambkjhhhaaMF
import Derived.Test.YtbcbcambkjhhhaaMG
import Derived.Test.YtbcbcambkjhhhaaMH
import Derived.Test.YtbcbcambkjhhhaaMI
import Derived.Test.YtbcbcambkjhhhaaMJ
import Derived.Test.YtbcbcambkjhhhaaMK
import Derived.Test.YtbcbcambkjhhhaaML
import Derived.Test.YtbcbcambkjhhhaaMM
import Derived.Test.YtbcbcambkjhhhaaMj1
import Derived.Test.YtbcbcambkjhhhaaMN
import Derived.Test.YtbcbcambkjhhhaaMO
import Derived.Test.YtbcbcambkjhhhaaMP
import Derived.Test.YtbcbcambkjhhhaaMQ
import Derived.Test.YtbcbcambkjhhhaaMR
import Derived.Test.YtbcbcambkjhhhaaMU
import Derived.Test.YtbcbcambkjhhhaaMV
import Derived.Test.YtbcbcambkjhhhaaMW
import Derived.Test.YtbcbcambkjhhhaaMX
import Derived.Test.YtbcbcambkjhhhaaMY
namespace Go.Proofs.Ytbcbcambkjhhhaa.Sx.Z
open Go.RowKit
def wA (d : D) (k : Nat) : Int := IntKind.i64.wrap ((IntKind.u64.wrap (d.el k 0).toI).tmod 5)
end Go.Proofs.Ytbcbcambkjhhhaa.Sx.Z
namespace Go.Proofs.Ytbcbcambkjhhhaa.Sx.Z
open Go.RowKit
theorem met_pt {n x lo hi : Int} {z : Zs} (h : Good n z) (hx : isVarP n x = true) (v : Nat → Int) : Pt n (metZ n x lo hi z) v ↔ Pt n z v ∧ ofLo lo hi ≤ v (x + 1).toNat ∧ v (x + 1).toNat ≤ ofHi lo hi := by
  have hv := isVarP_lt hx
  have e : metZ n x lo hi z = bndZ n (-1) x (0 - ofLo lo hi) (bndZ n x (-1) (ofHi lo hi) z) := if_neg (by omega)
  have q0 : ((-1 : Int) + 1).toNat = 0 := rfl
  rw [e, bnd_pt (good_bnd h _ _ _) (isEnd_nought n) (isVar_end hx), bnd_pt h (isVar_end hx) (isEnd_nought n), q0]
  constructor
  · rintro ⟨⟨p, h1⟩, h2⟩
    have := p.2.1
    exact ⟨p, by omega, by omega⟩
  · rintro ⟨p, h1, h2⟩
    have := p.2.1
    exact ⟨⟨p, by omega⟩, by omega⟩
theorem itv_pts {n x a b : Int} {z : Zs} (g : Good n z) (hx : isVarP n x = true) (va : ∃ v, Pt n z v ∧ v (x + 1).toNat = a) (vb : ∃ v, Pt n z v ∧ v (x + 1).toNat = b) (all : ∀ v, Pt n z v → a ≤ v (x + 1).toNat ∧ v (x + 1).toNat ≤ b) : z.1 = false ∧ itvLo n z.1 z.2 x = a ∧ itvHi n z.1 z.2 x = b := by
  have hR := R_le n
  obtain ⟨ha, hax, ha1⟩ := isVar_R hx
  obtain ⟨v, pv, ev⟩ := va
  obtain ⟨w, pw, ew⟩ := vb
  obtain ⟨e1, e2⟩ := itv_exact g pv.1 hx
  have d0 := g.diag 0 (by omega)
  have t1 := (all _ (pt_at g pv.1 (j := 0) (by omega))).2
  have t2 := (all _ (pt_at g pv.1 (j := (x + 1).toNat) ha)).1
  have d1 := g.diag _ ha
  have t3 := pw.2.2 _ 0 ha (by omega)
  have t4 := pv.2.2 0 _ (by omega) ha
  have z1 := pv.2.1
  have z2 := pw.2.1
  simp only [Nat.zero_mul, Nat.zero_add, Nat.add_zero] at d0 t1 t2 t3 t4
  rw [e1, e2]
  exact ⟨pv.1, by omega, by omega⟩
theorem within_pts {n : Int} {z w : Zs} (g : Good n z) (h : ∀ v, Pt n z v → Pt n w v) : withinP n z.1 z.2 n w.1 w.2 = true := by
  refine wi_iff.2 ?_
  cases hz : z.1 with
  | true => exact .inl hz
  | false =>
    obtain ⟨h1, h2⟩ := good_le g h hz
    exact .inr ⟨h1, hz, h2⟩
theorem pt_itv {n x : Int} {z : Zs} (g : Good n z) (hx : isVarP n x = true) {v : Nat → Int} (p : Pt n z v) : itvLo n z.1 z.2 x ≤ v (x + 1).toNat ∧ v (x + 1).toNat ≤ itvHi n z.1 z.2 x := by
  have hR := R_le n
  obtain ⟨ha, hax, ha1⟩ := isVar_R hx
  obtain ⟨e1, e2⟩ := itv_exact g p.1 hx
  have t3 := p.2.2 _ 0 ha (by omega)
  have t4 := p.2.2 0 _ (by omega) ha
  have z1 := p.2.1
  simp only [Nat.zero_mul, Nat.zero_add, Nat.add_zero] at t3 t4
  rw [e1, e2]
  exact ⟨by omega, by omega⟩
/-- A point is had. -/
theorem nhas_pt {n : Int} {z : Zs} (g : Good n z) {h : Nat → Int} (p : Pt n z (vz h)) {v : D} (hv : v.rows = (rowI n.toNat h).rows) : nhasP z.1 (itD n.toNat n z) n z.1 z.2 v = true := by
  have h0 := g.n0
  have hl : v.len = n.toNat := by rw [len_rows hv, rowI_len]
  have hL := itD_len n.toNat n z
  unfold nhasP
  rw [if_neg (by rw [p.1, hl, hL]; simp), Bool.and_eq_true]
  constructor
  · refine allJ_iff.2 fun j hj => ?_
    rw [hL] at hj
    obtain ⟨e1, e2⟩ := itD_el hj n z
    have hx : isVarP n (j : Int) = true := isVar_of h0 (by omega)
    obtain ⟨t1, t2⟩ := pt_itv g hx p
    have ev : (v.el j 0).toI = h j := by
      have := congrFun (ig_rows hv) j
      rw [ig_rowI _ _ hj] at this; exact this
    have ez : vz h ((j : Int) + 1).toNat = h j := by
      unfold vz
      rw [if_neg (by omega), show ((j : Int) + 1).toNat - 1 = j by omega]
    rw [ez] at t1 t2
    unfold hasJ
    rw [e1, e2, ev, Bool.and_eq_true]
    exact ⟨decide_eq_true t1, decide_eq_true t2⟩
  · rw [hl, ig_rows hv, has_congr fun q hq => ig_rowI n.toNat h hq]
    exact has_pt g (by omega) p
end Go.Proofs.Ytbcbcambkjhhhaa.Sx.Z
namespace Go.Proofs.Ytbcbcambkjhhhaa.Sx.Z
open Go.RowKit
theorem of_lh {a b : Int} (h : -2147483648 ≤ a ∧ a ≤ b ∧ b ≤ 2147483647) : ofLo a b = a ∧ ofHi a b = b := by
  have e := nm_id (p := (a, b)) (.inr h)
  exact ⟨congrArg Prod.fst e, congrArg Prod.snd e⟩
/-- One variable from lo to hi. -/
def Z1 (lo hi : Int) : Zs := metZ 1 0 (ofLo lo hi) (ofHi lo hi) (fgZ 1 0 (false, fun _ => 0))
theorem g10 : Good 1 (false, fun _ => 0) := good_none (by omega) false
theorem z1_good (lo hi : Int) : Good 1 (Z1 lo hi) := good_met (good_fg g10 _) _ _ _
theorem z1_itv {lo hi : Int} (h : -2147483648 ≤ lo ∧ lo ≤ hi ∧ hi ≤ 2147483647) : (Z1 lo hi).1 = false ∧ itvLo 1 (Z1 lo hi).1 (Z1 lo hi).2 0 = lo ∧ itvHi 1 (Z1 lo hi).1 (Z1 lo hi).2 0 = hi := by
  have e := of_lh h
  have hx : isVarP 1 0 = true := rfl
  have m := met_pt (lo := ofLo lo hi) (hi := ofHi lo hi) (good_fg g10 0) hx
  have e2 : ofLo (ofLo lo hi) (ofHi lo hi) = lo ∧ ofHi (ofLo lo hi) (ofHi lo hi) = hi := by rw [e.1, e.2]; exact e
  have p0 : Pt 1 (false, fun _ => 0) (fun _ => 0) := ⟨rfl, rfl, fun i j _ _ => by simp⟩
  have mk := fun b (hb : lo ≤ b ∧ b ≤ hi) => (m (upd (fun _ => 0) 1 b)).2 ⟨pt_fg g10 hx p0 (by omega), by rw [e2.1]; exact hb.1, by rw [e2.2]; exact hb.2⟩
  exact itv_pts (z1_good lo hi) hx ⟨_, mk lo (by omega), rfl⟩ ⟨_, mk hi (by omega), rfl⟩ fun v hv => by
    have := (m v).1 hv
    rw [e2.1, e2.2] at this
    exact this.2
def dR : D := (D.l [[D.i 2, D.i 0, D.i 0, D.l []], [D.i 1, D.i 1, D.i 0, D.l []]]).sub 0 (0 + 2)
theorem dR_len : dR.len = 2 := rfl
theorem dR_0 : exE dR 0 = ex 2 0 0 (D.l []) := rfl
theorem dR_1 : exE dR 1 = ex 1 1 0 (D.l []) := rfl
theorem linR : linP (ex 4 0 0 dR) = some (0, 1) := by
  rw [lin_eq, dR_0, dR_1, lin_eq, lin_eq, dR_len]
  decide
theorem recR {I : D} (hI : I.len = 1) (h0 : prI I 0 = (2, 5)) : recP I (ex 4 0 0 dR) = ((3, 6), (false, false)) := by
  rw [rec_eq, dR_0, dR_1, rec_eq, rec_eq, dR_len, hI, h0]
  have e1 : ofI 1 1 = (1, 1) := by decide
  have e2 : doI 4 (2, 5) (1, 1) = ((3, 6), (false, false)) := by
    rw [doI_add (by unfold NoDo; omega) (.inr (by decide)) (.inr (by decide))]
    decide
  simp [e1, bothI, doE, e2, tg]
noncomputable def reckonsS : FSpec := fun ds _ => match ds with
  | [] => some { val := .one (.sc (.bool (.sym (true)))), vc := [] }
  | _ => none
noncomputable def reckonsC : Con := con [] reckonsS
theorem reckons_ok : ConOK Try.prog 39 reckonsC := by
  refine fn_ob tt_ok mixed Try.func39 rfl (fun _ _ => by kernel_rfl) (A := fun ds => ⟨fun _ => Cons.of [(53, nzerosC), (68, iofC), (52, nsetC), (41, evalC), (37, linC)], fun _ => none, fun _ => none⟩) (fun _ _ => (cons_cons nzeros_ok (cons_cons iof_ok (cons_cons nset_ok (cons_cons eval_ok (cons_cons lin_ok cons_nil)))))) (by kernel_rfl) ?_
  intro ds fr
  unfold reckonsS
  split
  · skip
    refine kmp (q := Good (topN (1 : Int)) (false, fun (x : Nat) => (0 : Int)) ∧
 (itD (topN (1 : Int)).toNat (topN (1 : Int)) (false, fun (x : Nat) => (0 : Int))).len ≤ (1000 : Nat) ∧
 nat_lit 0 + nat_lit 2 ≤ (D.l [[D.i (2 : Int), D.i (0 : Int), D.i (0 : Int), D.l []], [D.i (1 : Int), D.i (1 : Int), D.i (0 : Int), D.l []]]).len ∧
 NumOK (topN (1 : Int))
 (metZ (topN (1 : Int)) (0 : Int) (ofLo (2 : Int) (5 : Int)) (ofHi (2 : Int) (5 : Int))
 (fgZ (topN (1 : Int)) (0 : Int) (false, fun (x : Nat) => (0 : Int)))).fst
 (itD (itD (topN (1 : Int)).toNat (topN (1 : Int)) (false, fun (x : Nat) => (0 : Int))).len (topN (1 : Int))
 (metZ (topN (1 : Int)) (0 : Int) (ofLo (2 : Int) (5 : Int)) (ofHi (2 : Int) (5 : Int))
 (fgZ (topN (1 : Int)) (0 : Int) (false, fun (x : Nat) => (0 : Int)))))
 (metZ (topN (1 : Int)) (0 : Int) (ofLo (2 : Int) (5 : Int)) (ofHi (2 : Int) (5 : Int))
 (fgZ (topN (1 : Int)) (0 : Int) (false, fun (x : Nat) => (0 : Int)))).fst
 (metZ (topN (1 : Int)) (0 : Int) (ofLo (2 : Int) (5 : Int)) (ofHi (2 : Int) (5 : Int))
 (fgZ (topN (1 : Int)) (0 : Int) (false, fun (x : Nat) => (0 : Int)))).snd ∧
 nat_lit 0 + nat_lit 2 ≤ (D.l [[D.i (2 : Int), D.i (0 : Int), D.i (0 : Int), D.l []], [D.i (1 : Int), D.i (1 : Int), D.i (0 : Int), D.l []]]).len ∧
 ((evaP (topN (1 : Int)).toNat (topN (1 : Int))
 ((metZ (topN (1 : Int)) (0 : Int) (ofLo (2 : Int) (5 : Int)) (ofHi (2 : Int) (5 : Int))
 (fgZ (topN (1 : Int)) (0 : Int) (false, fun (x : Nat) => (0 : Int)))).fst,
 (metZ (topN (1 : Int)) (0 : Int) (ofLo (2 : Int) (5 : Int)) (ofHi (2 : Int) (5 : Int))
 (fgZ (topN (1 : Int)) (0 : Int) (false, fun (x : Nat) => (0 : Int)))).snd)
 (ex (4 : Int) (0 : Int) (0 : Int)
 ((D.l [[D.i (2 : Int), D.i (0 : Int), D.i (0 : Int), D.l []], [D.i (1 : Int), D.i (1 : Int), D.i (0 : Int), D.l []]]).sub
 (nat_lit 0) (nat_lit 0 + nat_lit 2)))).fst.fst ==
 ofLo (3 : Int) (6 : Int) &&
 ((evaP (topN (1 : Int)).toNat (topN (1 : Int))
 ((metZ (topN (1 : Int)) (0 : Int) (ofLo (2 : Int) (5 : Int)) (ofHi (2 : Int) (5 : Int))
 (fgZ (topN (1 : Int)) (0 : Int) (false, fun (x : Nat) => (0 : Int)))).fst,
 (metZ (topN (1 : Int)) (0 : Int) (ofLo (2 : Int) (5 : Int)) (ofHi (2 : Int) (5 : Int))
 (fgZ (topN (1 : Int)) (0 : Int) (false, fun (x : Nat) => (0 : Int)))).snd)
 (ex (4 : Int) (0 : Int) (0 : Int)
 ((D.l [[D.i (2 : Int), D.i (0 : Int), D.i (0 : Int), D.l []], [D.i (1 : Int), D.i (1 : Int), D.i (0 : Int), D.l []]]).sub
 (nat_lit 0) (nat_lit 0 + nat_lit 2)))).fst.snd ==
 ofHi (3 : Int) (6 : Int) &&
 true) &&
 ((evaP (topN (1 : Int)).toNat (topN (1 : Int))
 ((metZ (topN (1 : Int)) (0 : Int) (ofLo (2 : Int) (5 : Int)) (ofHi (2 : Int) (5 : Int))
 (fgZ (topN (1 : Int)) (0 : Int) (false, fun (x : Nat) => (0 : Int)))).fst,
 (metZ (topN (1 : Int)) (0 : Int) (ofLo (2 : Int) (5 : Int)) (ofHi (2 : Int) (5 : Int))
 (fgZ (topN (1 : Int)) (0 : Int) (false, fun (x : Nat) => (0 : Int)))).snd)
 (ex (4 : Int) (0 : Int) (0 : Int)
 ((D.l [[D.i (2 : Int), D.i (0 : Int), D.i (0 : Int), D.l []], [D.i (1 : Int), D.i (1 : Int), D.i (0 : Int), D.l []]]).sub
 (nat_lit 0) (nat_lit 0 + nat_lit 2)))).snd.fst ==
 false &&
 ((evaP (topN (1 : Int)).toNat (topN (1 : Int))
 ((metZ (topN (1 : Int)) (0 : Int) (ofLo (2 : Int) (5 : Int)) (ofHi (2 : Int) (5 : Int))
 (fgZ (topN (1 : Int)) (0 : Int) (false, fun (x : Nat) => (0 : Int)))).fst,
 (metZ (topN (1 : Int)) (0 : Int) (ofLo (2 : Int) (5 : Int)) (ofHi (2 : Int) (5 : Int))
 (fgZ (topN (1 : Int)) (0 : Int) (false, fun (x : Nat) => (0 : Int)))).snd)
 (ex (4 : Int) (0 : Int) (0 : Int)
 ((D.l [[D.i (2 : Int), D.i (0 : Int), D.i (0 : Int), D.l []], [D.i (1 : Int), D.i (1 : Int), D.i (0 : Int), D.l []]]).sub
 (nat_lit 0) (nat_lit 0 + nat_lit 2)))).snd.snd ==
 false &&
 true)) &&
 oX
 (linP
 (ex (4 : Int) (0 : Int) (0 : Int)
 ((D.l [[D.i (2 : Int), D.i (0 : Int), D.i (0 : Int), D.l []], [D.i (1 : Int), D.i (1 : Int), D.i (0 : Int), D.l []]]).sub (nat_lit 0)
 (nat_lit 0 + nat_lit 2)))) ==
 (0 : Int) &&
 oY
 (linP
 (ex (4 : Int) (0 : Int) (0 : Int)
 ((D.l [[D.i (2 : Int), D.i (0 : Int), D.i (0 : Int), D.l []], [D.i (1 : Int), D.i (1 : Int), D.i (0 : Int), D.l []]]).sub (nat_lit 0)
 (nat_lit 0 + nat_lit 2)))) ==
 (1 : Int) &&
 oB
 (linP
 (ex (4 : Int) (0 : Int) (0 : Int)
 ((D.l [[D.i (2 : Int), D.i (0 : Int), D.i (0 : Int), D.l []], [D.i (1 : Int), D.i (1 : Int), D.i (0 : Int), D.l []]]).sub (nat_lit 0)
 (nat_lit 0 + nat_lit 2))))) =
 true) (by kernel_rfl) ?_
    have tn : topN 1 = 1 := rfl
    have e : (D.l [[D.i 2, D.i 0, D.i 0, D.l []], [D.i 1, D.i 1, D.i 0, D.l []]]).sub 0 (0 + 2) = dR := rfl
    have hl : (D.l [[D.i 2, D.i 0, D.i 0, D.l []], [D.i 1, D.i 1, D.i 0, D.l []]]).len = 2 := rfl
    have z : metZ 1 0 (ofLo 2 5) (ofHi 2 5) (fgZ 1 0 (false, fun _ => 0)) = Z1 2 5 := rfl
    have zi := z1_itv (lo := 2) (hi := 5) (by decide)
    simp only [tn, e, hl, z, itD_len, linR, oX_some, oY_some, oB_some]
    have hr : evaP (Int.toNat 1) 1 ((Z1 2 5).1, (Z1 2 5).2) (ex 4 0 0 dR) = ((3, 6), (false, false)) := by
      unfold evaP
      rw [if_neg (by rw [zi.1]; decide)]
      refine recR (itD_len _ _ _) ?_
      rw [itD_pr (by decide), zi.2.1, zi.2.2]
    simp only [hr]
    refine ⟨g10, by decide, by omega, numOK_of (z1_good 2 5), by omega, by decide⟩
  · trivial
noncomputable def elinearsS : FSpec := fun ds _ => match ds with
  | [.i _k, .i _n, .i _v, .d _d] => some { val := .one (.sc (.bool (.sym (true)))), vc := [] }
  | _ => none
noncomputable def elinearsC : Con := con [rxpA] elinearsS
theorem elinears_ok : ConOK Try.prog 6 elinearsC := by
  refine fn_ob tt_ok mixed Try.func6 rfl (fun _ _ => by kernel_rfl) (A := fun ds => ⟨fun _ => Cons.of [(36, tameC), (15, copyXC), (37, linC), (38, rlinC), (39, reckonsC)], fun _ => none, fun _ => none⟩) (fun _ _ => (cons_cons tame_ok (cons_cons copyX_ok (cons_cons lin_ok (cons_cons rlin_ok (cons_cons reckons_ok cons_nil)))))) (by kernel_rfl) ?_
  intro ds fr
  unfold elinearsS
  split
  · rename_i k n v d
    refine kmp (q := ((0 : Int) ≤ (20 : Int) ∧ (20 : Int) ≤ (100 : Int)) ∧
 ((1 : Int) ≤ (3 : Int) ∧ (3 : Int) ≤ (6 : Int)) ∧
 Small
 (ex (tamP (3 : Int) (Int.toNat (20 : Int)) (ex k n v d)).k (tamP (3 : Int) (Int.toNat (20 : Int)) (ex k n v d)).n
 (tamP (3 : Int) (Int.toNat (20 : Int)) (ex k n v d)).v (dE (tamP (3 : Int) (Int.toNat (20 : Int)) (ex k n v d)).kids)) ∧
 (true &&
 oX
 (linP
 (ex
 (ex (tamP (3 : Int) (Int.toNat (20 : Int)) (ex k n v d)).k (tamP (3 : Int) (Int.toNat (20 : Int)) (ex k n v d)).n
 (tamP (3 : Int) (Int.toNat (20 : Int)) (ex k n v d)).v (dE (tamP (3 : Int) (Int.toNat (20 : Int)) (ex k n v d)).kids)).k
 (ex (tamP (3 : Int) (Int.toNat (20 : Int)) (ex k n v d)).k (tamP (3 : Int) (Int.toNat (20 : Int)) (ex k n v d)).n
 (tamP (3 : Int) (Int.toNat (20 : Int)) (ex k n v d)).v (dE (tamP (3 : Int) (Int.toNat (20 : Int)) (ex k n v d)).kids)).n
 (ex (tamP (3 : Int) (Int.toNat (20 : Int)) (ex k n v d)).k (tamP (3 : Int) (Int.toNat (20 : Int)) (ex k n v d)).n
 (tamP (3 : Int) (Int.toNat (20 : Int)) (ex k n v d)).v (dE (tamP (3 : Int) (Int.toNat (20 : Int)) (ex k n v d)).kids)).v
 (dE
 (ex (tamP (3 : Int) (Int.toNat (20 : Int)) (ex k n v d)).k (tamP (3 : Int) (Int.toNat (20 : Int)) (ex k n v d)).n
 (tamP (3 : Int) (Int.toNat (20 : Int)) (ex k n v d)).v (dE (tamP (3 : Int) (Int.toNat (20 : Int)) (ex k n v d)).kids)).kids))) ==
 oX
 (rlinP
 (ex (tamP (3 : Int) (Int.toNat (20 : Int)) (ex k n v d)).k (tamP (3 : Int) (Int.toNat (20 : Int)) (ex k n v d)).n
 (tamP (3 : Int) (Int.toNat (20 : Int)) (ex k n v d)).v (dE (tamP (3 : Int) (Int.toNat (20 : Int)) (ex k n v d)).kids))) &&
 oY
 (linP
 (ex
 (ex (tamP (3 : Int) (Int.toNat (20 : Int)) (ex k n v d)).k (tamP (3 : Int) (Int.toNat (20 : Int)) (ex k n v d)).n
 (tamP (3 : Int) (Int.toNat (20 : Int)) (ex k n v d)).v (dE (tamP (3 : Int) (Int.toNat (20 : Int)) (ex k n v d)).kids)).k
 (ex (tamP (3 : Int) (Int.toNat (20 : Int)) (ex k n v d)).k (tamP (3 : Int) (Int.toNat (20 : Int)) (ex k n v d)).n
 (tamP (3 : Int) (Int.toNat (20 : Int)) (ex k n v d)).v (dE (tamP (3 : Int) (Int.toNat (20 : Int)) (ex k n v d)).kids)).n
 (ex (tamP (3 : Int) (Int.toNat (20 : Int)) (ex k n v d)).k (tamP (3 : Int) (Int.toNat (20 : Int)) (ex k n v d)).n
 (tamP (3 : Int) (Int.toNat (20 : Int)) (ex k n v d)).v (dE (tamP (3 : Int) (Int.toNat (20 : Int)) (ex k n v d)).kids)).v
 (dE
 (ex (tamP (3 : Int) (Int.toNat (20 : Int)) (ex k n v d)).k (tamP (3 : Int) (Int.toNat (20 : Int)) (ex k n v d)).n
 (tamP (3 : Int) (Int.toNat (20 : Int)) (ex k n v d)).v (dE (tamP (3 : Int) (Int.toNat (20 : Int)) (ex k n v d)).kids)).kids))) ==
 oY
 (rlinP
 (ex (tamP (3 : Int) (Int.toNat (20 : Int)) (ex k n v d)).k (tamP (3 : Int) (Int.toNat (20 : Int)) (ex k n v d)).n
 (tamP (3 : Int) (Int.toNat (20 : Int)) (ex k n v d)).v (dE (tamP (3 : Int) (Int.toNat (20 : Int)) (ex k n v d)).kids))) &&
 oB
 (linP
 (ex
 (ex (tamP (3 : Int) (Int.toNat (20 : Int)) (ex k n v d)).k (tamP (3 : Int) (Int.toNat (20 : Int)) (ex k n v d)).n
 (tamP (3 : Int) (Int.toNat (20 : Int)) (ex k n v d)).v (dE (tamP (3 : Int) (Int.toNat (20 : Int)) (ex k n v d)).kids)).k
 (ex (tamP (3 : Int) (Int.toNat (20 : Int)) (ex k n v d)).k (tamP (3 : Int) (Int.toNat (20 : Int)) (ex k n v d)).n
 (tamP (3 : Int) (Int.toNat (20 : Int)) (ex k n v d)).v (dE (tamP (3 : Int) (Int.toNat (20 : Int)) (ex k n v d)).kids)).n
 (ex (tamP (3 : Int) (Int.toNat (20 : Int)) (ex k n v d)).k (tamP (3 : Int) (Int.toNat (20 : Int)) (ex k n v d)).n
 (tamP (3 : Int) (Int.toNat (20 : Int)) (ex k n v d)).v (dE (tamP (3 : Int) (Int.toNat (20 : Int)) (ex k n v d)).kids)).v
 (dE
 (ex (tamP (3 : Int) (Int.toNat (20 : Int)) (ex k n v d)).k (tamP (3 : Int) (Int.toNat (20 : Int)) (ex k n v d)).n
 (tamP (3 : Int) (Int.toNat (20 : Int)) (ex k n v d)).v (dE (tamP (3 : Int) (Int.toNat (20 : Int)) (ex k n v d)).kids)).kids))) ==
 oB
 (rlinP
 (ex (tamP (3 : Int) (Int.toNat (20 : Int)) (ex k n v d)).k (tamP (3 : Int) (Int.toNat (20 : Int)) (ex k n v d)).n
 (tamP (3 : Int) (Int.toNat (20 : Int)) (ex k n v d)).v (dE (tamP (3 : Int) (Int.toNat (20 : Int)) (ex k n v d)).kids)))) =
 true) (by kernel_rfl) ?_
    have t := tam_tm (w := 3) (by omega) (Int.toNat 20) (ex k n v d)
    simp only [ex_of]
    rw [(lin_same (by omega) t).1]
    refine ⟨by omega, by omega, tm_small t, by simp⟩
  · trivial
end Go.Proofs.Ytbcbcambkjhhhaa.Sx.Z
