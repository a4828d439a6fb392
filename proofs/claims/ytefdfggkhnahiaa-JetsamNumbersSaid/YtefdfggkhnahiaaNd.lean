/-
  The laws' small calls: meets, like, zeros.
-/
import Derived.Test.YtefdfggkhnahiaaNc
namespace Go.Proofs.Ytefdfggkhnahiaa.Sx.Z
open Go.RowKit
theorem itD_right {n : Int} {z : Zs} (g : Good n z) : nrightP z.1 (itD n.toNat n z) n z.1 z.2 = true := by
  have h := good_right g
  have h0 := g.n0
  unfold nrightP
  rw [if_neg (by rw [h, itD_len]; simp; omega)]
  refine allJ_iff.2 fun j hj => ?_
  rw [itD_len] at hj
  obtain ⟨e1, e2⟩ := itD_el hj n z
  unfold rightJ
  rw [e1, e2]; simp
theorem len_of {I : D} {m : Nat} {n : Int} {z : Zs} (h : I.rows = (itD m n z).rows) : I.len = m := by
  rw [show I.len = (itD m n z).len by unfold D.len; rw [h], itD_len]
theorem el_of {I : D} {m : Nat} {n : Int} {z : Zs} (h : I.rows = (itD m n z).rows) (i j : Nat) : I.el i j = (itD m n z).el i j := by unfold D.el; rw [h]
theorem right_rows {I J : D} (h : I.rows = J.rows) (c : Bool) (n : Int) (e : Bool) (f : Nat → Int) : nrightP c I n e f = nrightP c J n e f := by
  have hl : I.len = J.len := by unfold D.len; rw [h]
  have he : ∀ i j, I.el i j = J.el i j := fun i j => by unfold D.el; rw [h]
  unfold nrightP
  rw [hl]
  have : rightJ I n e f = rightJ J n e f := by funext j; unfold rightJ; rw [he, he]
  rw [this]
theorem good_congr {n : Int} {c : Bool} {f g : Nat → Int} (h : Good n (c, f)) (e : ∀ o, o < 49 → g o = f o) : Good n (c, g) := by
  have hR := R_le n
  refine ⟨h.n0, fun i j hi hj ho => (e _ (by omega)).trans (h.out i j hi hj ho), fun i hi => (e _ (by omega)).trans (h.diag i hi), fun i j k hi hj hk => ?_, fun i hi => ?_, fun i hi => ?_, fun hc o ho => (e o ho).trans (h.none hc o ho)⟩
  · have t := h.tri i j k hi hj hk
    unfold Z.tri at t ⊢
    dsimp only at t ⊢
    rw [e _ (by omega), e _ (by omega), e _ (by omega)]; exact t
  · have t := h.hi0 i hi
    dsimp only at t ⊢
    rw [e _ (by omega)]; exact t
  · have t := h.hi1 i hi
    dsimp only at t ⊢
    rw [e _ (by omega)]; exact t
theorem itv_congr {n : Int} {c : Bool} {f g : Nat → Int} (e : ∀ o, o < 49 → g o = f o) {x : Int} (hx : isVarP n x = true) : itvLo n c g x = itvLo n c f x ∧ itvHi n c g x = itvHi n c f x := by
  have hv := isVarP_lt hx
  unfold itvLo itvHi
  rw [e _ (by omega), e _ (by omega)]
  exact ⟨rfl, rfl⟩
theorem met_nought {n x : Int} (hx : ¬ x < 0) (z : Zs) : metZ n x 0 0 z = bndZ n (-1) x 0 (bndZ n x (-1) 0 z) := by
  have e1 : ofLo 0 0 = 0 := rfl
  have e2 : ofHi 0 0 = 0 := rfl
  unfold metZ
  rw [if_neg hx, e1, e2]; rfl
def meetsZ : Zs := metZ 1 0 (ofLo 4 9) (ofHi 4 9) (metZ 1 0 (ofLo 2 5) (ofHi 2 5) (fgZ 1 0 (false, fun _ => 0)))
theorem meetsZ_good : Good 1 meetsZ := good_met (good_met (good_fg (good_none (by omega) false) 0) _ _ _) _ _ _
def meetsS : FSpec := fun ds _ => match ds with
  | [] => some { val := .one (.sc (.bool (.sym (true)))), vc := [] }
  | _ => none
def meetsC : Con := con [] meetsS
theorem meets_ok : ConOK Try.prog 15 meetsC := by
  refine fn_ob tt_ok mixed Try.func15 rfl (fun _ _ => by kernel_rfl) (A := fun ds => ⟨fun _ => Cons.of [(13, nzerosC), (29, iofC), (28, nsetC), (30, nmeetC), (33, nhasC), (34, nrightC), (17, nnoneC)], fun _ => none, fun k => match k, ds with | 2, [] => some { ι := Bool, pre := fun _ _ => True, μ := fun _ => 0, st := fun s _ => famR s [(1, .one (.sc (.ptr (s.nx - 1) (.lit 0))))] [] [(s.nx - 1, .own 30 ([.c (.bool (.sym (meetsZ).1)), .c (.rows 53 (itD (1) (1) (meetsZ))), .c (.int .i64 (.sym (1))), .c (.bool (.sym (meetsZ).1)), .ints .i64 (.lit 49) (meetsZ).2]))] [] } | _, _ => none⟩) (fun _ _ => (cons_cons nzeros_ok (cons_cons iof_ok (cons_cons nset_ok (cons_cons nmeet_ok (cons_cons nhas_ok (cons_cons nright_ok (cons_cons nnone_ok cons_nil)))))))) (by kernel_rfl) ?_
  intro ds fr
  unfold meetsS
  split
  · skip
    refine kmp (q := (Good (topN (1 : Int)) (false, fun (x : Nat) => (0 : Int)) ∧
 (itD (topN (1 : Int)).toNat (topN (1 : Int)) (false, fun (x : Nat) => (0 : Int))).len ≤ (1000 : Nat) ∧
 Good (topN (1 : Int))
 ((metZ (topN (1 : Int)) (0 : Int) (ofLo (2 : Int) (5 : Int)) (ofHi (2 : Int) (5 : Int))
 (fgZ (topN (1 : Int)) (0 : Int) (false, fun (x : Nat) => (0 : Int)))).fst,
 (metZ (topN (1 : Int)) (0 : Int) (ofLo (2 : Int) (5 : Int)) (ofHi (2 : Int) (5 : Int))
 (fgZ (topN (1 : Int)) (0 : Int) (false, fun (x : Nat) => (0 : Int)))).snd) ∧
 (itD (itD (topN (1 : Int)).toNat (topN (1 : Int)) (false, fun (x : Nat) => (0 : Int))).len (topN (1 : Int))
 (metZ (topN (1 : Int)) (0 : Int) (ofLo (2 : Int) (5 : Int)) (ofHi (2 : Int) (5 : Int))
 (fgZ (topN (1 : Int)) (0 : Int) (false, fun (x : Nat) => (0 : Int))))).len ≤
 (1000 : Nat) ∧
 ∃ (i : Bool),
 True ∧
 (metZ (topN (1 : Int)) (0 : Int) (ofLo (4 : Int) (9 : Int)) (ofHi (4 : Int) (9 : Int))
 ((metZ (topN (1 : Int)) (0 : Int) (ofLo (2 : Int) (5 : Int)) (ofHi (2 : Int) (5 : Int))
 (fgZ (topN (1 : Int)) (0 : Int) (false, fun (x : Nat) => (0 : Int)))).fst,
 (metZ (topN (1 : Int)) (0 : Int) (ofLo (2 : Int) (5 : Int)) (ofHi (2 : Int) (5 : Int))
 (fgZ (topN (1 : Int)) (0 : Int) (false, fun (x : Nat) => (0 : Int)))).snd)).fst =
 meetsZ.fst ∧
 List.map
 (fun (j : Nat) =>
 [D.i
 (itvLo (topN (1 : Int))
 (metZ (topN (1 : Int)) (0 : Int) (ofLo (4 : Int) (9 : Int)) (ofHi (4 : Int) (9 : Int))
 ((metZ (topN (1 : Int)) (0 : Int) (ofLo (2 : Int) (5 : Int)) (ofHi (2 : Int) (5 : Int))
 (fgZ (topN (1 : Int)) (0 : Int) (false, fun (x : Nat) => (0 : Int)))).fst,
 (metZ (topN (1 : Int)) (0 : Int) (ofLo (2 : Int) (5 : Int)) (ofHi (2 : Int) (5 : Int))
 (fgZ (topN (1 : Int)) (0 : Int) (false, fun (x : Nat) => (0 : Int)))).snd)).fst
 (metZ (topN (1 : Int)) (0 : Int) (ofLo (4 : Int) (9 : Int)) (ofHi (4 : Int) (9 : Int))
 ((metZ (topN (1 : Int)) (0 : Int) (ofLo (2 : Int) (5 : Int)) (ofHi (2 : Int) (5 : Int))
 (fgZ (topN (1 : Int)) (0 : Int) (false, fun (x : Nat) => (0 : Int)))).fst,
 (metZ (topN (1 : Int)) (0 : Int) (ofLo (2 : Int) (5 : Int)) (ofHi (2 : Int) (5 : Int))
 (fgZ (topN (1 : Int)) (0 : Int) (false, fun (x : Nat) => (0 : Int)))).snd)).snd
 (↑j : Int)),
 D.i
 (itvHi (topN (1 : Int))
 (metZ (topN (1 : Int)) (0 : Int) (ofLo (4 : Int) (9 : Int)) (ofHi (4 : Int) (9 : Int))
 ((metZ (topN (1 : Int)) (0 : Int) (ofLo (2 : Int) (5 : Int)) (ofHi (2 : Int) (5 : Int))
 (fgZ (topN (1 : Int)) (0 : Int) (false, fun (x : Nat) => (0 : Int)))).fst,
 (metZ (topN (1 : Int)) (0 : Int) (ofLo (2 : Int) (5 : Int)) (ofHi (2 : Int) (5 : Int))
 (fgZ (topN (1 : Int)) (0 : Int) (false, fun (x : Nat) => (0 : Int)))).snd)).fst
 (metZ (topN (1 : Int)) (0 : Int) (ofLo (4 : Int) (9 : Int)) (ofHi (4 : Int) (9 : Int))
 ((metZ (topN (1 : Int)) (0 : Int) (ofLo (2 : Int) (5 : Int)) (ofHi (2 : Int) (5 : Int))
 (fgZ (topN (1 : Int)) (0 : Int) (false, fun (x : Nat) => (0 : Int)))).fst,
 (metZ (topN (1 : Int)) (0 : Int) (ofLo (2 : Int) (5 : Int)) (ofHi (2 : Int) (5 : Int))
 (fgZ (topN (1 : Int)) (0 : Int) (false, fun (x : Nat) => (0 : Int)))).snd)).snd
 (↑j : Int))])
 (List.range
 (itD (itD (topN (1 : Int)).toNat (topN (1 : Int)) (false, fun (x : Nat) => (0 : Int))).len (topN (1 : Int))
 (metZ (topN (1 : Int)) (0 : Int) (ofLo (2 : Int) (5 : Int)) (ofHi (2 : Int) (5 : Int))
 (fgZ (topN (1 : Int)) (0 : Int) (false, fun (x : Nat) => (0 : Int))))).len) =
 List.map (fun (j : Nat) => [D.i (itvLo (1 : Int) meetsZ.fst meetsZ.snd (↑j : Int)), D.i (itvHi (1 : Int) meetsZ.fst meetsZ.snd (↑j : Int))])
 (List.range (1 : Nat)) ∧
 topN (1 : Int) = (1 : Int) ∧
 (metZ (topN (1 : Int)) (0 : Int) (ofLo (4 : Int) (9 : Int)) (ofHi (4 : Int) (9 : Int))
 ((metZ (topN (1 : Int)) (0 : Int) (ofLo (2 : Int) (5 : Int)) (ofHi (2 : Int) (5 : Int))
 (fgZ (topN (1 : Int)) (0 : Int) (false, fun (x : Nat) => (0 : Int)))).fst,
 (metZ (topN (1 : Int)) (0 : Int) (ofLo (2 : Int) (5 : Int)) (ofHi (2 : Int) (5 : Int))
 (fgZ (topN (1 : Int)) (0 : Int) (false, fun (x : Nat) => (0 : Int)))).snd)).fst =
 meetsZ.fst ∧
 ∀ (o : Nat),
 o < nat_lit 49 →
 (metZ (topN (1 : Int)) (0 : Int) (ofLo (4 : Int) (9 : Int)) (ofHi (4 : Int) (9 : Int))
 ((metZ (topN (1 : Int)) (0 : Int) (ofLo (2 : Int) (5 : Int)) (ofHi (2 : Int) (5 : Int))
 (fgZ (topN (1 : Int)) (0 : Int) (false, fun (x : Nat) => (0 : Int)))).fst,
 (metZ (topN (1 : Int)) (0 : Int) (ofLo (2 : Int) (5 : Int)) (ofHi (2 : Int) (5 : Int))
 (fgZ (topN (1 : Int)) (0 : Int) (false, fun (x : Nat) => (0 : Int)))).snd)).snd
 o =
 meetsZ.snd o) ∧
 ∀ (i : Bool),
 True →
 (((↑(itD (1 : Nat) (1 : Int) meetsZ).len : Int) == (1 : Int)) = true ∧ True → nat_lit 0 < (itD (1 : Nat) (1 : Int) meetsZ).len) ∧
 ((↑(itD (1 : Nat) (1 : Int) meetsZ).len : Int) == (1 : Int) &&
 (itvLo (1 : Int) meetsZ.fst meetsZ.snd (↑(nat_lit 0) : Int) == ofLo (4 : Int) (5 : Int) &&
 (itvHi (1 : Int) meetsZ.fst meetsZ.snd (↑(nat_lit 0) : Int) == ofHi (4 : Int) (5 : Int) && true))) =
 true ∧
 (((↑(itD (1 : Nat) (1 : Int) meetsZ).len : Int) == (1 : Int) &&
 (itvLo (1 : Int) meetsZ.fst meetsZ.snd (↑(nat_lit 0) : Int) == ofLo (4 : Int) (5 : Int) &&
 (itvHi (1 : Int) meetsZ.fst meetsZ.snd (↑(nat_lit 0) : Int) == ofHi (4 : Int) (5 : Int) && true))) =
 true ∧
 True →
 (0 : Nat) + (1 : Nat) ≤ (D.l [[D.i (4 : Int)]]).len) ∧
 (((↑(itD (1 : Nat) (1 : Int) meetsZ).len : Int) == (1 : Int) &&
 (itvLo (1 : Int) meetsZ.fst meetsZ.snd (↑(nat_lit 0) : Int) == ofLo (4 : Int) (5 : Int) &&
 (itvHi (1 : Int) meetsZ.fst meetsZ.snd (↑(nat_lit 0) : Int) == ofHi (4 : Int) (5 : Int) && true))) =
 true ∧
 True →
 (itD (1 : Nat) (1 : Int) meetsZ).len ≤ (1000 : Nat)) ∧
 ((↑(itD (1 : Nat) (1 : Int) meetsZ).len : Int) == (1 : Int) &&
 (itvLo (1 : Int) meetsZ.fst meetsZ.snd (↑(nat_lit 0) : Int) == ofLo (4 : Int) (5 : Int) &&
 (itvHi (1 : Int) meetsZ.fst meetsZ.snd (↑(nat_lit 0) : Int) == ofHi (4 : Int) (5 : Int) && true)) &&
 nhasP meetsZ.fst (itD (1 : Nat) (1 : Int) meetsZ) (1 : Int) meetsZ.fst meetsZ.snd
 ((D.l [[D.i (4 : Int)]]).sub (0 : Nat) ((0 : Nat) + (1 : Nat)))) =
 true ∧
 (((↑(itD (1 : Nat) (1 : Int) meetsZ).len : Int) == (1 : Int) &&
 (itvLo (1 : Int) meetsZ.fst meetsZ.snd (↑(nat_lit 0) : Int) == ofLo (4 : Int) (5 : Int) &&
 (itvHi (1 : Int) meetsZ.fst meetsZ.snd (↑(nat_lit 0) : Int) == ofHi (4 : Int) (5 : Int) && true)) &&
 nhasP meetsZ.fst (itD (1 : Nat) (1 : Int) meetsZ) (1 : Int) meetsZ.fst meetsZ.snd
 ((D.l [[D.i (4 : Int)]]).sub (0 : Nat) ((0 : Nat) + (1 : Nat)))) =
 true ∧
 True →
 (0 : Nat) + (1 : Nat) ≤ (D.l [[D.i (3 : Int)]]).len) ∧
 (((↑(itD (1 : Nat) (1 : Int) meetsZ).len : Int) == (1 : Int) &&
 (itvLo (1 : Int) meetsZ.fst meetsZ.snd (↑(nat_lit 0) : Int) == ofLo (4 : Int) (5 : Int) &&
 (itvHi (1 : Int) meetsZ.fst meetsZ.snd (↑(nat_lit 0) : Int) == ofHi (4 : Int) (5 : Int) && true)) &&
 nhasP meetsZ.fst (itD (1 : Nat) (1 : Int) meetsZ) (1 : Int) meetsZ.fst meetsZ.snd
 ((D.l [[D.i (4 : Int)]]).sub (0 : Nat) ((0 : Nat) + (1 : Nat)))) =
 true ∧
 True →
 (itD (1 : Nat) (1 : Int) meetsZ).len ≤ (1000 : Nat)) ∧
 (((↑(itD (1 : Nat) (1 : Int) meetsZ).len : Int) == (1 : Int) &&
 (itvLo (1 : Int) meetsZ.fst meetsZ.snd (↑(nat_lit 0) : Int) == ofLo (4 : Int) (5 : Int) &&
 (itvHi (1 : Int) meetsZ.fst meetsZ.snd (↑(nat_lit 0) : Int) == ofHi (4 : Int) (5 : Int) && true)) &&
 nhasP meetsZ.fst (itD (1 : Nat) (1 : Int) meetsZ) (1 : Int) meetsZ.fst meetsZ.snd
 ((D.l [[D.i (4 : Int)]]).sub (0 : Nat) ((0 : Nat) + (1 : Nat))) &&
 !nhasP meetsZ.fst (itD (1 : Nat) (1 : Int) meetsZ) (1 : Int) meetsZ.fst meetsZ.snd
 ((D.l [[D.i (3 : Int)]]).sub (0 : Nat) ((0 : Nat) + (1 : Nat)))) =
 true ∧
 True →
 Sm meetsZ.snd) ∧
 (((↑(itD (1 : Nat) (1 : Int) meetsZ).len : Int) == (1 : Int) &&
 (itvLo (1 : Int) meetsZ.fst meetsZ.snd (↑(nat_lit 0) : Int) == ofLo (4 : Int) (5 : Int) &&
 (itvHi (1 : Int) meetsZ.fst meetsZ.snd (↑(nat_lit 0) : Int) == ofHi (4 : Int) (5 : Int) && true)) &&
 nhasP meetsZ.fst (itD (1 : Nat) (1 : Int) meetsZ) (1 : Int) meetsZ.fst meetsZ.snd
 ((D.l [[D.i (4 : Int)]]).sub (0 : Nat) ((0 : Nat) + (1 : Nat))) &&
 !nhasP meetsZ.fst (itD (1 : Nat) (1 : Int) meetsZ) (1 : Int) meetsZ.fst meetsZ.snd
 ((D.l [[D.i (3 : Int)]]).sub (0 : Nat) ((0 : Nat) + (1 : Nat)))) =
 true ∧
 True →
 (itD (1 : Nat) (1 : Int) meetsZ).len ≤ (1000 : Nat)) ∧
 ((↑(itD (1 : Nat) (1 : Int) meetsZ).len : Int) == (1 : Int) &&
 (itvLo (1 : Int) meetsZ.fst meetsZ.snd (↑(nat_lit 0) : Int) == ofLo (4 : Int) (5 : Int) &&
 (itvHi (1 : Int) meetsZ.fst meetsZ.snd (↑(nat_lit 0) : Int) == ofHi (4 : Int) (5 : Int) && true)) &&
 nhasP meetsZ.fst (itD (1 : Nat) (1 : Int) meetsZ) (1 : Int) meetsZ.fst meetsZ.snd
 ((D.l [[D.i (4 : Int)]]).sub (0 : Nat) ((0 : Nat) + (1 : Nat))) &&
 !nhasP meetsZ.fst (itD (1 : Nat) (1 : Int) meetsZ) (1 : Int) meetsZ.fst meetsZ.snd
 ((D.l [[D.i (3 : Int)]]).sub (0 : Nat) ((0 : Nat) + (1 : Nat))) &&
 nrightP meetsZ.fst (itD (1 : Nat) (1 : Int) meetsZ) (1 : Int) meetsZ.fst meetsZ.snd &&
 true) =
 true) (by kernel_rfl) ?_
    simp only [raw0, true_and, and_true, implies_true, Nat.mul_one, Int.toNat_natCast, c7, decide_eq_true_eq, decide_eq_false_iff_not, Nat.zero_add, forall_const, Nat.le_eq, at_iff, bne_iff_ne, bne_eq_false_iff_eq, and_self, and_self_left, Nat.reduceAdd]
    have ht : topN 1 = 1 := rfl
    have g0 : Good 1 (false, fun _ => 0) := good_none (by omega) false
    have g1 := good_met (good_fg g0 0) 0 (ofLo 2 5) (ofHi 2 5)
    have eL : (itD 1 1 meetsZ).len = 1 := itD_len _ _ _
    have a1 : (itvLo 1 meetsZ.1 meetsZ.2 (0 : Nat) == ofLo 4 5) = true := by kernel_rfl
    have a2 : (itvHi 1 meetsZ.1 meetsZ.2 (0 : Nat) == ofHi 4 5) = true := by kernel_rfl
    have a3 : nhasP meetsZ.1 (itD 1 1 meetsZ) 1 meetsZ.1 meetsZ.2 ((D.l [[D.i 4]]).sub 0 1) = true := by kernel_rfl
    have a4 : nhasP meetsZ.1 (itD 1 1 meetsZ) 1 meetsZ.1 meetsZ.2 ((D.l [[D.i 3]]).sub 0 1) = false := by kernel_rfl
    have a5 : nrightP meetsZ.1 (itD 1 1 meetsZ) 1 meetsZ.1 meetsZ.2 = true := itD_right meetsZ_good
    rw [ht, a1, a2, a3, a4, a5, eL]
    refine ⟨⟨g0, by rw [itD_len]; decide, g1, by rw [itD_len, itD_len]; decide, true, rfl, by rw [itD_len, itD_len]; rfl, rfl, rfl, fun _ _ => rfl⟩, fun _ => by omega, rfl, fun _ => Nat.le_refl _, fun _ => by omega, rfl, fun _ => Nat.le_refl _, fun _ => by omega, fun _ => meetsZ_good.sm, fun _ => by omega, rfl⟩
  · trivial
def likeS : FSpec := fun ds _ => match ds with
  | [.b c, .d I, .i n, .b e, .f f, .i m, .b e2, .f g] => some { val := .one (.sc (.bool (.sym (true)))), vc := [Good n (e, f), c = e, I.rows = (itD n.toNat n (e, f)).rows, m = n, e2 = e, ∀ o, o < 49 → g o = f o] }
  | _ => none
def likeC : Con := con [numA, zA] likeS
theorem like_ok : ConOK Try.prog 16 likeC := by
  refine fn_ob tt_ok mixed Try.func16 rfl (fun _ _ => by kernel_rfl) (A := fun ds => ⟨fun _ => Cons.of [(44, zfromC), (34, nrightC), (45, ritvC)], fun k => match k, ds with | 4, [.b c, .d I, .i n, .b e, .f f, .i m, .b e2, .f g] => some { ι := Nat, pre := fun _ k => k ≤ n.toNat, μ := fun k => n.toNat + 1 - k, st := fun s k => famR s [(5, .one (.sc (.int .i64 (.sym ((k : Nat))))))] [2, 3] [] [2, 3] } | _, _ => none, fun _ => none⟩) (fun _ _ => (cons_cons zfrom_ok (cons_cons nright_ok (cons_cons ritv_ok cons_nil)))) (by kernel_rfl) ?_
  intro ds fr
  unfold likeS
  split
  · rename_i c I n e f m e2 g
    refine kmp (q := Good n (e, f) →
 c = e →
 I.rows = List.map (fun (j : Nat) => [D.i (itvLo n e f (↑j : Int)), D.i (itvHi n e f (↑j : Int))]) (List.range n.toNat) →
 m = n →
 e2 = e →
 (∀ (o : Nat), o < (49 : Nat) → g o = f o) →
 ((!(n == m && (e == e2 && (decide (∀ (o : Nat), o < (49 : Nat) → f o = g o) && true))) || !c == e2 || (↑I.len : Int) != m) = false ∧ True → Sm f) ∧
 ((!(n == m && (e == e2 && (decide (∀ (o : Nat), o < (49 : Nat) → f o = g o) && true))) || !c == e2 || (↑I.len : Int) != m) = false ∧ True →
 I.len ≤ (1000 : Nat)) ∧
 ((!(n == m && (e == e2 && (decide (∀ (o : Nat), o < (49 : Nat) → f o = g o) && true))) || !c == e2 || (↑I.len : Int) != m ||
 !nrightP c I n e f) =
 true →
 false = true) ∧
 ((!(n == m && (e == e2 && (decide (∀ (o : Nat), o < (49 : Nat) → f o = g o) && true))) || !c == e2 || (↑I.len : Int) != m ||
 !nrightP c I n e f) =
 false →
 (∃ (i : Nat),
 i.le n.toNat ∧
 (0 : Int) = (↑i : Int) ∧
 c = c ∧
 I.rows = I.rows ∧
 n = n ∧ e = e ∧ (∀ (o : Nat), o < nat_lit 49 → f o = f o) ∧ m = m ∧ e2 = e2 ∧ ∀ (o : Nat), o < nat_lit 49 → g o = g o) ∧
 ∀ (i : Nat),
 i.le n.toNat →
 (decide ((↑i : Int) < m) = true →
 Good m (e2, g) ∧
 isVarP m (↑i : Int) = true ∧
 ((0 : Int) ≤ (↑i : Int) ∧ (↑i : Int) < (↑I.len : Int)) ∧
 ((!((I.el (↑i : Int).toNat (0 : Nat)).toI == itvLo m e2 g (↑i : Int) &&
 ((I.el (↑i : Int).toNat ((0 : Nat) + (1 : Nat))).toI == itvHi m e2 g (↑i : Int) && true))) =
 true →
 false = true) ∧
 ((!((I.el (↑i : Int).toNat (0 : Nat)).toI == itvLo m e2 g (↑i : Int) &&
 ((I.el (↑i : Int).toNat ((0 : Nat) + (1 : Nat))).toI == itvHi m e2 g (↑i : Int) && true))) =
 false →
 ∃ (j : Nat),
 j.le n.toNat ∧
 n.toNat + (1 : Nat) - j < n.toNat + (1 : Nat) - i ∧
 IntKind.i64.wrap ((↑i : Int) + (1 : Int)) = (↑j : Int) ∧
 c = c ∧
 I.rows = I.rows ∧
 n = n ∧
 e = e ∧
 (∀ (o : Nat), o < nat_lit 49 → f o = f o) ∧
 m = m ∧ e2 = e2 ∧ ∀ (o : Nat), o < nat_lit 49 → g o = g o)) ∧
 (decide ((↑i : Int) < m) = false → true = true))) (by kernel_rfl) ?_
    simp only [raw0, true_and, and_true, implies_true, Nat.mul_one, Int.toNat_natCast, c7, decide_eq_true_eq, decide_eq_false_iff_not, Nat.zero_add, forall_const, Nat.le_eq, at_iff, bne_iff_ne, bne_eq_false_iff_eq, and_self, and_self_left, Nat.reduceAdd]
    intro hG hc hI hm he hg
    subst hc hm he
    have hn := hG.n0
    have hI' : I.rows = (itD m.toNat m (e2, f)).rows := hI
    have hL := len_of hI'
    have hr : nrightP e2 I m e2 f = true := (right_rows hI' e2 m e2 f).trans (itD_right hG)
    have hg' : ∀ o, o < 49 → f o = g o := fun o ho => (hg o ho).symm
    have hGg : Good m (e2, g) := good_congr hG hg
    rw [hr]
    refine ⟨fun _ => hG.sm, fun _ => by omega, fun h => ?_, fun h => ⟨⟨0, Nat.zero_le _, rfl⟩, fun i hi h1 => ?_⟩⟩
    · rw [decide_eq_true hg', hL] at h
      have : ((m.toNat : Nat) : Int) = m := by omega
      rw [this] at h
      revert h
      cases e2 <;> simp
    · have vx := isVar_of (x := (i : Int)) hn (by omega)
      obtain ⟨c1, c2⟩ := itv_congr (n := m) (c := e2) hg vx
      obtain ⟨d1, d2⟩ := itD_el (m := m.toNat) (j := i) (by omega) m (e2, f)
      dsimp only at d1 d2
      rw [el_of hI' i 0, el_of hI' i 1, d1, d2, c1, c2]
      exact ⟨hGg, vx, by omega, (fun h => by simp at h), fun _ => ⟨i + 1, by omega, by omega, wr _ (by omega)⟩⟩
  · trivial
def zerosNS : FSpec := fun ds _ => match ds with
  | [.i n] => some { val := .one (.agg [.c (.int .i64 (.sym (n))), .c (.bool (.sym (false))), .ints .i64 (.lit 49) (fun _ => 0)]), vc := [0 ≤ n ∧ n ≤ 6] }
  | _ => none
def zerosNC : Con := con [iA] zerosNS
theorem zerosN_ok : ConOK Try.prog 19 zerosNC := by
  refine fn_ob tt_ok mixed Try.func19 rfl (fun _ _ => by kernel_rfl) (A := fun ds => ⟨fun _ => Cons.of [(12, rtopC), (14, rmeetC)], fun k => match k, ds with | 3, [.i n] => some { ι := Nat, pre := fun _ i => i ≤ n.toNat, μ := fun i => 9 - i, st := fun s i => famR s [(4, .one (.sc (.int .i64 (.sym ((i : Nat))))))] [0, 2, 3] [(idOf s 3, .own 32 (zs (.sym n) (.sym (zoP n i).1) (zoP n i).2))] [2] } | _, _ => none, fun _ => none⟩) (fun _ _ => (cons_cons rtop_ok (cons_cons rmeet_ok cons_nil))) (by kernel_rfl) ?_
  intro ds fr
  unfold zerosNS
  split
  · rename_i n
    refine kmp (q := (0 : Int) ≤ n ∧ n ≤ (6 : Int) →
 (∃ (i : Nat),
 i.le n.toNat ∧
 (0 : Int) = (↑i : Int) ∧
 n = n ∧
 topN n = n ∧
 false = (zoP n i).fst ∧
 (∀ (o : Nat), o < nat_lit 49 → topF n o = (zoP n i).snd o) ∧
 (0 : Int) = (0 : Int) ∧ false = false ∧ ∀ (o : Nat), o < nat_lit 49 → (0 : Int) = (0 : Int)) ∧
 ∀ (i : Nat),
 i.le n.toNat →
 (decide ((↑i : Int) < n) = true →
 Good n ((zoP n i).fst, (zoP n i).snd) ∧
 isVarP n (↑i : Int) = true ∧
 ((-2147483648 : Int) ≤ (0 : Int) ∧ (0 : Int) ≤ (2147483647 : Int)) ∧
 ((-2147483648 : Int) ≤ (0 : Int) ∧ (0 : Int) ≤ (2147483647 : Int)) ∧
 ∃ (j : Nat),
 j.le n.toNat ∧
 (9 : Nat) - j < (9 : Nat) - i ∧
 IntKind.i64.wrap ((↑i : Int) + (1 : Int)) = (↑j : Int) ∧
 n = n ∧
 n = n ∧
 (metZ n (↑i : Int) (0 : Int) (0 : Int) ((zoP n i).fst, (zoP n i).snd)).fst = (zoP n j).fst ∧
 (∀ (o : Nat),
 o < nat_lit 49 → (metZ n (↑i : Int) (0 : Int) (0 : Int) ((zoP n i).fst, (zoP n i).snd)).snd o = (zoP n j).snd o) ∧
 (0 : Int) = (0 : Int) ∧ false = false ∧ ∀ (o : Nat), o < nat_lit 49 → (0 : Int) = (0 : Int)) ∧
 (decide ((↑i : Int) < n) = false → n = n ∧ (zoP n i).fst = false ∧ ∀ (o : Nat), o < nat_lit 49 → (zoP n i).snd o = (0 : Int))) (by kernel_rfl) ?_
    simp only [raw0, true_and, and_true, implies_true, Nat.mul_one, Int.toNat_natCast, c7, decide_eq_true_eq, decide_eq_false_iff_not, Nat.zero_add, forall_const, Nat.le_eq, at_iff, bne_iff_ne, bne_eq_false_iff_eq, and_self, and_self_left, Nat.reduceAdd]
    intro hn
    have ht : topN n = n := by unfold topN; omega
    have hz := zo_same hn
    refine ⟨⟨0, by omega, rfl, ht, rfl, fun _ _ => rfl⟩, fun i hi => ⟨fun h => ?_, fun h => ?_⟩⟩
    · have g := zoP_good hn i
      have e : metZ n i 0 0 ((zoP n i).1, (zoP n i).2) = zoP n (i + 1) := met_nought (by omega) _
      rw [e]
      exact ⟨g, isVar_of (x := (i : Int)) hn (by omega), by omega, i + 1, by omega, by omega, wr _ (by omega), rfl, fun _ _ => rfl⟩
    · rw [show i = n.toNat by omega]
      exact hz
  · trivial
end Go.Proofs.Ytefdfggkhnahiaa.Sx.Z
