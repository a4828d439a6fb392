/-
  NumSets' contract.
-/
import Derived.Test.YtefdfggkhnahiaaNq
namespace Go.Proofs.Ytefdfggkhnahiaa.Sx.Z
open Go.RowKit
theorem of_lh {a b : Int} (h : -2147483648 ≤ a ∧ a ≤ b ∧ b ≤ 2147483647) : ofLo a b = a ∧ ofHi a b = b := by
  unfold ofLo ofHi
  (repeat' split) <;> omega
/-- Set: nothing is left where nothing was, or where it is set to nothing. -/
theorem set_none {n x lo hi : Int} {z : Zs} (g : Good n z) (hx : isVarP n x = true) (hl : -2147483648 ≤ lo ∧ lo ≤ 2147483647) (hh : -2147483648 ≤ hi ∧ hi ≤ 2147483647) : (metZ n x lo hi (fgZ n x z)).1 = (z.1 || decide (hi < lo)) := by
  have gf := good_fg g x
  by_cases hlt : hi < lo
  · have := (met_none gf hx hlt).1
    rw [this, decide_eq_true hlt, Bool.or_true]
  · rw [decide_eq_false hlt, Bool.or_false]
    cases hz : z.1 with
    | true =>
      have hv := isVarP_lt hx
      have e : metZ n x lo hi z = bndZ n (-1) x (0 - ofLo lo hi) (bndZ n x (-1) (ofHi lo hi) z) := if_neg (by omega)
      rw [fg_true hz, e, bnd_none (z := z) hz, bnd_none hz, hz]
    | false =>
      have hR := R_le n
      have p := pt_fg g hx (pt_at g hz (j := 0) (by omega)) hl
      have e := of_lh (a := lo) (b := hi) (by omega)
      exact ((met_pt gf hx _).2 ⟨p, by rw [upd_at, e.1, e.2]; omega⟩).1
theorem set_itv {n x y lo hi : Int} {z : Zs} (g : Good n z) (hz : z.1 = false) (hx : isVarP n x = true) (hy : isVarP n y = true) (hl : -2147483648 ≤ lo ∧ lo ≤ hi ∧ hi ≤ 2147483647) : itvLo n (metZ n x lo hi (fgZ n x z)).1 (metZ n x lo hi (fgZ n x z)).2 y = (if y = x then lo else itvLo n z.1 z.2 y) ∧ itvHi n (metZ n x lo hi (fgZ n x z)).1 (metZ n x lo hi (fgZ n x z)).2 y = (if y = x then hi else itvHi n z.1 z.2 y) := by
  have hR := R_le n
  have gf := good_fg g x
  have gm := good_met gf x lo hi
  have e := of_lh hl
  obtain ⟨x1, x2, x3⟩ := isVar_R hx
  obtain ⟨y1, y2, y3⟩ := isVar_R hy
  have mk := fun (p : Nat → Int) (hp : Pt n z p) (b : Int) (hb : lo ≤ b ∧ b ≤ hi) => (met_pt (lo := lo) (hi := hi) gf hx _).2 ⟨pt_fg g hx hp (b := b) (by omega), by rw [upd_at, e.1, e.2]; exact hb⟩
  by_cases h : y = x
  · subst h
    rw [if_pos rfl, if_pos rfl]
    have p := pt_at g hz (j := 0) (by omega)
    exact (itv_pts gm hy ⟨_, mk _ p lo (by omega), upd_at _ _ _⟩ ⟨_, mk _ p hi (by omega), upd_at _ _ _⟩ fun v hv => by
      have := ((met_pt gf hy v).1 hv).2
      rwa [e.1, e.2] at this).2
  · rw [if_neg h, if_neg h]
    obtain ⟨z1, z2⟩ := itv_exact g hz hy
    have d0 := g.diag 0 (by omega)
    have dy := g.diag _ y1
    simp only [Nat.zero_mul, Nat.zero_add, Nat.add_zero] at d0
    have ne : (y + 1).toNat ≠ (x + 1).toNat := by omega
    refine (itv_pts gm hy ⟨_, mk _ (pt_at g hz (j := (y + 1).toNat) y1) lo (by omega), ?_⟩ ⟨_, mk _ (pt_at g hz (j := 0) (by omega)) lo (by omega), ?_⟩ fun v hv => ?_).2
    · rw [upd_ne ne, z1, dy, Nat.zero_mul, Nat.zero_add]
    · rw [upd_ne ne, z2]; simp only [Nat.zero_mul, Nat.add_zero]; omega
    · have p := ((met_pt gf hx v).1 hv).1
      have t1 := p.2.2 _ 0 y1 (by omega)
      have t2 := p.2.2 0 _ (by omega) y1
      rw [fg_false hz hx] at t1 t2
      dsimp only at t1 t2
      rw [fg_at y1 (by omega) hR.2.1, if_neg (by omega), if_neg (by omega)] at t1
      rw [fg_at (by omega) y1 hR.2.1, if_neg (by omega), if_neg (by omega)] at t2
      have := p.2.1
      simp only [Nat.zero_mul, Nat.zero_add, Nat.add_zero] at t1 t2
      rw [z1, z2]
      omega
def k3 (x : Int) : Int := IntKind.i64.wrap ((IntKind.u64.wrap x).tmod 3)
theorem k3_in (x : Int) : 0 ≤ k3 x ∧ k3 x < 3 := by
  have h := u64_in x
  have h2 := tmod_in h.1 (show (0 : Int) < 3 by omega)
  unfold k3
  rw [wr _ (by omega)]; exact h2
def SM (a1 a2 x : Int) : Zs := metZ 3 (k3 x) (normLo (bend a1) (bend a2)) (normHi (bend a1) (bend a2)) (fgZ 3 (k3 x) (false, fun _ => 0))
def SN (a1 a2 b1 b2 x : Int) : Zs := metZ 3 (k3 x) (normLo (bend b1) (bend b2)) (normHi (bend b1) (bend b2)) (fgZ 3 (k3 x) (SM a1 a2 x))
def nnsetsS : FSpec := fun ds _ => match ds with
  | [.i a1, .i a2, .i b1, .i b2, .i x] => some { val := .one (.sc (.bool (.sym (true)))), vc := [] }
  | _ => none
def nnsetsC : Con := con [itvA, itvA, iA] nnsetsS
theorem nnsets_ok : ConOK Try.prog 8 nnsetsC := by
  refine fn_ob tt_ok mixed Try.func8 rfl (fun _ _ => by kernel_rfl) (A := fun ds => ⟨fun _ => Cons.of [(13, nzerosC), (27, bendC), (26, normC), (28, nsetC), (36, emptyC), (35, iconstC), (34, nrightC), (15, meetsC)], fun k => match k, ds with | 9, [.i a1, .i a2, .i b1, .i b2, .i x] => some { ι := Nat, pre := fun _ i => i ≤ 3, μ := fun i => 9 - i, st := fun s i => famR s [(14, .one (.sc (.int .i64 (.sym ((i : Nat))))))] [7, 11, 13] [] [11, 13] } | _, _ => none, fun k => match k, ds with | 4, [.i a1, .i a2, .i b1, .i b2, .i x] => some { ι := Bool, pre := fun _ _ => True, μ := fun _ => 0, st := fun s _ => famR s [(7, .one (.sc (.int .i64 (.sym (k3 x))))), (10, .one (.sc (.ptr (s.nx - 2) (.lit 0)))), (11, .one (.sc (.ptr (s.nx - 1) (.lit 0))))] [] [(s.nx - 2, .own 53 ([.c (.int .i64 (.sym ((normLo (bend a1) (bend a2))))), .c (.int .i64 (.sym ((normHi (bend a1) (bend a2)))))])), (s.nx - 1, .own 53 ([.c (.int .i64 (.sym ((normLo (bend b1) (bend b2))))), .c (.int .i64 (.sym ((normHi (bend b1) (bend b2)))))]))] [] } | 6, [.i a1, .i a2, .i b1, .i b2, .i x] => some { ι := Bool, pre := fun _ _ => True, μ := fun _ => 0, st := fun s _ => famR s [(12, .one (.sc (.ptr (idOf s 12) (.lit 0)))), (13, .one (.sc (.ptr (s.nx - 1) (.lit 0))))] [7, 10, 11] [(idOf s 12, .own 30 ([.c (.bool (.sym (SM a1 a2 x : Zs).1)), .c (.rows 53 (itD (3) (3) (SM a1 a2 x))), .c (.int .i64 (.sym (3))), .c (.bool (.sym (SM a1 a2 x : Zs).1)), .ints .i64 (.lit 49) (SM a1 a2 x : Zs).2])), (s.nx - 1, .own 30 ([.c (.bool (.sym (SN a1 a2 b1 b2 x : Zs).1)), .c (.rows 53 (itD (3) (3) (SN a1 a2 b1 b2 x))), .c (.int .i64 (.sym (3))), .c (.bool (.sym (SN a1 a2 b1 b2 x : Zs).1)), .ints .i64 (.lit 49) (SN a1 a2 b1 b2 x : Zs).2]))] [10, 11] } | _, _ => none⟩) (fun _ _ => (cons_cons nzeros_ok (cons_cons bend_ok (cons_cons norm_ok (cons_cons nset_ok (cons_cons empty_ok (cons_cons iconst_ok (cons_cons nright_ok (cons_cons meets_ok cons_nil))))))))) (by kernel_rfl) ?_
  intro ds fr
  unfold nnsetsS
  split
  · rename_i a1 a2 b1 b2 x
    refine kmp (q := (∃ (i : Bool),
 True ∧
 IntKind.i64.wrap ((IntKind.u64.wrap x).tmod (3 : Int)) = k3 x ∧
 normLo (bend a1) (bend a2) = normLo (bend a1) (bend a2) ∧
 normHi (bend a1) (bend a2) = normHi (bend a1) (bend a2) ∧
 normLo (bend b1) (bend b2) = normLo (bend b1) (bend b2) ∧ normHi (bend b1) (bend b2) = normHi (bend b1) (bend b2)) ∧
 ∀ (i : Bool),
 True →
 Good (topN (3 : Int)) (false, fun (x : Nat) => (0 : Int)) ∧
 (itD (topN (3 : Int)).toNat (topN (3 : Int)) (false, fun (x : Nat) => (0 : Int))).len ≤ (1000 : Nat) ∧
 (Good (topN (3 : Int))
 ((metZ (topN (3 : Int)) (k3 x) (normLo (bend a1) (bend a2)) (normHi (bend a1) (bend a2))
 (fgZ (topN (3 : Int)) (k3 x) (false, fun (x : Nat) => (0 : Int)))).fst,
 (metZ (topN (3 : Int)) (k3 x) (normLo (bend a1) (bend a2)) (normHi (bend a1) (bend a2))
 (fgZ (topN (3 : Int)) (k3 x) (false, fun (x : Nat) => (0 : Int)))).snd) ∧
 (itD (itD (topN (3 : Int)).toNat (topN (3 : Int)) (false, fun (x : Nat) => (0 : Int))).len (topN (3 : Int))
 (metZ (topN (3 : Int)) (k3 x) (normLo (bend a1) (bend a2)) (normHi (bend a1) (bend a2))
 (fgZ (topN (3 : Int)) (k3 x) (false, fun (x : Nat) => (0 : Int))))).len ≤
 (1000 : Nat) ∧
 ∃ (i : Bool),
 True ∧
 k3 x = k3 x ∧
 (metZ (topN (3 : Int)) (k3 x) (normLo (bend a1) (bend a2)) (normHi (bend a1) (bend a2))
 (fgZ (topN (3 : Int)) (k3 x) (false, fun (x : Nat) => (0 : Int)))).fst =
 (SM a1 a2 x).fst ∧
 List.map
 (fun (j : Nat) =>
 [D.i
 (itvLo (topN (3 : Int))
 (metZ (topN (3 : Int)) (k3 x) (normLo (bend a1) (bend a2)) (normHi (bend a1) (bend a2))
 (fgZ (topN (3 : Int)) (k3 x) (false, fun (x : Nat) => (0 : Int)))).fst
 (metZ (topN (3 : Int)) (k3 x) (normLo (bend a1) (bend a2)) (normHi (bend a1) (bend a2))
 (fgZ (topN (3 : Int)) (k3 x) (false, fun (x : Nat) => (0 : Int)))).snd
 (↑j : Int)),
 D.i
 (itvHi (topN (3 : Int))
 (metZ (topN (3 : Int)) (k3 x) (normLo (bend a1) (bend a2)) (normHi (bend a1) (bend a2))
 (fgZ (topN (3 : Int)) (k3 x) (false, fun (x : Nat) => (0 : Int)))).fst
 (metZ (topN (3 : Int)) (k3 x) (normLo (bend a1) (bend a2)) (normHi (bend a1) (bend a2))
 (fgZ (topN (3 : Int)) (k3 x) (false, fun (x : Nat) => (0 : Int)))).snd
 (↑j : Int))])
 (List.range (itD (topN (3 : Int)).toNat (topN (3 : Int)) (false, fun (x : Nat) => (0 : Int))).len) =
 List.map
 (fun (j : Nat) =>
 [D.i (itvLo (3 : Int) (SM a1 a2 x).fst (SM a1 a2 x).snd (↑j : Int)),
 D.i (itvHi (3 : Int) (SM a1 a2 x).fst (SM a1 a2 x).snd (↑j : Int))])
 (List.range (3 : Nat)) ∧
 topN (3 : Int) = (3 : Int) ∧
 (metZ (topN (3 : Int)) (k3 x) (normLo (bend a1) (bend a2)) (normHi (bend a1) (bend a2))
 (fgZ (topN (3 : Int)) (k3 x) (false, fun (x : Nat) => (0 : Int)))).fst =
 (SM a1 a2 x).fst ∧
 (∀ (o : Nat),
 o < nat_lit 49 →
 (metZ (topN (3 : Int)) (k3 x) (normLo (bend a1) (bend a2)) (normHi (bend a1) (bend a2))
 (fgZ (topN (3 : Int)) (k3 x) (false, fun (x : Nat) => (0 : Int)))).snd
 o =
 (SM a1 a2 x).snd o) ∧
 (metZ (topN (3 : Int)) (k3 x) (normLo (bend b1) (bend b2)) (normHi (bend b1) (bend b2))
 (fgZ (topN (3 : Int)) (k3 x)
 ((metZ (topN (3 : Int)) (k3 x) (normLo (bend a1) (bend a2)) (normHi (bend a1) (bend a2))
 (fgZ (topN (3 : Int)) (k3 x) (false, fun (x : Nat) => (0 : Int)))).fst,
 (metZ (topN (3 : Int)) (k3 x) (normLo (bend a1) (bend a2)) (normHi (bend a1) (bend a2))
 (fgZ (topN (3 : Int)) (k3 x) (false, fun (x : Nat) => (0 : Int)))).snd))).fst =
 (SN a1 a2 b1 b2 x).fst ∧
 List.map
 (fun (j : Nat) =>
 [D.i
 (itvLo (topN (3 : Int))
 (metZ (topN (3 : Int)) (k3 x) (normLo (bend b1) (bend b2)) (normHi (bend b1) (bend b2))
 (fgZ (topN (3 : Int)) (k3 x)
 ((metZ (topN (3 : Int)) (k3 x) (normLo (bend a1) (bend a2)) (normHi (bend a1) (bend a2))
 (fgZ (topN (3 : Int)) (k3 x) (false, fun (x : Nat) => (0 : Int)))).fst,
 (metZ (topN (3 : Int)) (k3 x) (normLo (bend a1) (bend a2)) (normHi (bend a1) (bend a2))
 (fgZ (topN (3 : Int)) (k3 x) (false, fun (x : Nat) => (0 : Int)))).snd))).fst
 (metZ (topN (3 : Int)) (k3 x) (normLo (bend b1) (bend b2)) (normHi (bend b1) (bend b2))
 (fgZ (topN (3 : Int)) (k3 x)
 ((metZ (topN (3 : Int)) (k3 x) (normLo (bend a1) (bend a2)) (normHi (bend a1) (bend a2))
 (fgZ (topN (3 : Int)) (k3 x) (false, fun (x : Nat) => (0 : Int)))).fst,
 (metZ (topN (3 : Int)) (k3 x) (normLo (bend a1) (bend a2)) (normHi (bend a1) (bend a2))
 (fgZ (topN (3 : Int)) (k3 x) (false, fun (x : Nat) => (0 : Int)))).snd))).snd
 (↑j : Int)),
 D.i
 (itvHi (topN (3 : Int))
 (metZ (topN (3 : Int)) (k3 x) (normLo (bend b1) (bend b2)) (normHi (bend b1) (bend b2))
 (fgZ (topN (3 : Int)) (k3 x)
 ((metZ (topN (3 : Int)) (k3 x) (normLo (bend a1) (bend a2)) (normHi (bend a1) (bend a2))
 (fgZ (topN (3 : Int)) (k3 x) (false, fun (x : Nat) => (0 : Int)))).fst,
 (metZ (topN (3 : Int)) (k3 x) (normLo (bend a1) (bend a2)) (normHi (bend a1) (bend a2))
 (fgZ (topN (3 : Int)) (k3 x) (false, fun (x : Nat) => (0 : Int)))).snd))).fst
 (metZ (topN (3 : Int)) (k3 x) (normLo (bend b1) (bend b2)) (normHi (bend b1) (bend b2))
 (fgZ (topN (3 : Int)) (k3 x)
 ((metZ (topN (3 : Int)) (k3 x) (normLo (bend a1) (bend a2)) (normHi (bend a1) (bend a2))
 (fgZ (topN (3 : Int)) (k3 x) (false, fun (x : Nat) => (0 : Int)))).fst,
 (metZ (topN (3 : Int)) (k3 x) (normLo (bend a1) (bend a2)) (normHi (bend a1) (bend a2))
 (fgZ (topN (3 : Int)) (k3 x) (false, fun (x : Nat) => (0 : Int)))).snd))).snd
 (↑j : Int))])
 (List.range
 (itD (itD (topN (3 : Int)).toNat (topN (3 : Int)) (false, fun (x : Nat) => (0 : Int))).len (topN (3 : Int))
 (metZ (topN (3 : Int)) (k3 x) (normLo (bend a1) (bend a2)) (normHi (bend a1) (bend a2))
 (fgZ (topN (3 : Int)) (k3 x) (false, fun (x : Nat) => (0 : Int))))).len) =
 List.map
 (fun (j : Nat) =>
 [D.i (itvLo (3 : Int) (SN a1 a2 b1 b2 x).fst (SN a1 a2 b1 b2 x).snd (↑j : Int)),
 D.i (itvHi (3 : Int) (SN a1 a2 b1 b2 x).fst (SN a1 a2 b1 b2 x).snd (↑j : Int))])
 (List.range (3 : Nat)) ∧
 topN (3 : Int) = (3 : Int) ∧
 (metZ (topN (3 : Int)) (k3 x) (normLo (bend b1) (bend b2)) (normHi (bend b1) (bend b2))
 (fgZ (topN (3 : Int)) (k3 x)
 ((metZ (topN (3 : Int)) (k3 x) (normLo (bend a1) (bend a2)) (normHi (bend a1) (bend a2))
 (fgZ (topN (3 : Int)) (k3 x) (false, fun (x : Nat) => (0 : Int)))).fst,
 (metZ (topN (3 : Int)) (k3 x) (normLo (bend a1) (bend a2)) (normHi (bend a1) (bend a2))
 (fgZ (topN (3 : Int)) (k3 x) (false, fun (x : Nat) => (0 : Int)))).snd))).fst =
 (SN a1 a2 b1 b2 x).fst ∧
 (∀ (o : Nat),
 o < nat_lit 49 →
 (metZ (topN (3 : Int)) (k3 x) (normLo (bend b1) (bend b2)) (normHi (bend b1) (bend b2))
 (fgZ (topN (3 : Int)) (k3 x)
 ((metZ (topN (3 : Int)) (k3 x) (normLo (bend a1) (bend a2)) (normHi (bend a1) (bend a2))
 (fgZ (topN (3 : Int)) (k3 x) (false, fun (x : Nat) => (0 : Int)))).fst,
 (metZ (topN (3 : Int)) (k3 x) (normLo (bend a1) (bend a2)) (normHi (bend a1) (bend a2))
 (fgZ (topN (3 : Int)) (k3 x) (false, fun (x : Nat) => (0 : Int)))).snd))).snd
 o =
 (SN a1 a2 b1 b2 x).snd o) ∧
 normLo (bend a1) (bend a2) = normLo (bend a1) (bend a2) ∧
 normHi (bend a1) (bend a2) = normHi (bend a1) (bend a2) ∧
 normLo (bend b1) (bend b2) = normLo (bend b1) (bend b2) ∧
 normHi (bend b1) (bend b2) = normHi (bend b1) (bend b2)) ∧
 ∀ (i : Bool),
 True →
 ((!true || !(SM a1 a2 x).fst == decide (normHi (bend a1) (bend a2) < normLo (bend a1) (bend a2)) ||
 !(SN a1 a2 b1 b2 x).fst ==
 (decide (normHi (bend a1) (bend a2) < normLo (bend a1) (bend a2)) ||
 decide (normHi (bend b1) (bend b2) < normLo (bend b1) (bend b2))) ||
 (↑(itD (3 : Nat) (3 : Int) (SN a1 a2 b1 b2 x)).len : Int) != (3 : Int)) =
 true →
 false = true) ∧
 ((!true || !(SM a1 a2 x).fst == decide (normHi (bend a1) (bend a2) < normLo (bend a1) (bend a2)) ||
 !(SN a1 a2 b1 b2 x).fst ==
 (decide (normHi (bend a1) (bend a2) < normLo (bend a1) (bend a2)) ||
 decide (normHi (bend b1) (bend b2) < normLo (bend b1) (bend b2))) ||
 (↑(itD (3 : Nat) (3 : Int) (SN a1 a2 b1 b2 x)).len : Int) != (3 : Int)) =
 false →
 (∃ (i : Nat),
 i.le (3 : Nat) ∧
 (0 : Int) = (↑i : Int) ∧
 k3 x = k3 x ∧
 normLo (bend b1) (bend b2) = normLo (bend b1) (bend b2) ∧
 normHi (bend b1) (bend b2) = normHi (bend b1) (bend b2) ∧
 (SN a1 a2 b1 b2 x).fst = (SN a1 a2 b1 b2 x).fst ∧
 List.map
 (fun (j : Nat) =>
 [D.i (itvLo (3 : Int) (SN a1 a2 b1 b2 x).fst (SN a1 a2 b1 b2 x).snd (↑j : Int)),
 D.i (itvHi (3 : Int) (SN a1 a2 b1 b2 x).fst (SN a1 a2 b1 b2 x).snd (↑j : Int))])
 (List.range (3 : Nat)) =
 List.map
 (fun (j : Nat) =>
 [D.i (itvLo (3 : Int) (SN a1 a2 b1 b2 x).fst (SN a1 a2 b1 b2 x).snd (↑j : Int)),
 D.i (itvHi (3 : Int) (SN a1 a2 b1 b2 x).fst (SN a1 a2 b1 b2 x).snd (↑j : Int))])
 (List.range (3 : Nat)) ∧
 (3 : Int) = (3 : Int) ∧
 (SN a1 a2 b1 b2 x).fst = (SN a1 a2 b1 b2 x).fst ∧
 ∀ (o : Nat), o < nat_lit 49 → (SN a1 a2 b1 b2 x).snd o = (SN a1 a2 b1 b2 x).snd o) ∧
 ∀ (i : Nat),
 i.le (3 : Nat) →
 ((decide ((↑i : Int) < (3 : Int)) && !(SN a1 a2 b1 b2 x).fst) = true →
 (((↑i : Int) == k3 x) = true ∧ True →
 (0 : Int) ≤ (↑i : Int) ∧ (↑i : Int) < (↑(itD (3 : Nat) (3 : Int) (SN a1 a2 b1 b2 x)).len : Int)) ∧
 (((↑i : Int) != k3 x) = true ∧
 ((↑i : Int) == k3 x &&
 !(((itD (3 : Nat) (3 : Int) (SN a1 a2 b1 b2 x)).el (↑i : Int).toNat (0 : Nat)).toI == normLo (bend b1) (bend b2) &&
 (((itD (3 : Nat) (3 : Int) (SN a1 a2 b1 b2 x)).el (↑i : Int).toNat ((0 : Nat) + (1 : Nat))).toI ==
 normHi (bend b1) (bend b2) &&
 true))) =
 false ∧
 True →
 (0 : Int) ≤ (↑i : Int) ∧ (↑i : Int) < (↑(itD (3 : Nat) (3 : Int) (SN a1 a2 b1 b2 x)).len : Int)) ∧
 (((↑i : Int) == k3 x &&
 !(((itD (3 : Nat) (3 : Int) (SN a1 a2 b1 b2 x)).el (↑i : Int).toNat (0 : Nat)).toI == normLo (bend b1) (bend b2) &&
 (((itD (3 : Nat) (3 : Int) (SN a1 a2 b1 b2 x)).el (↑i : Int).toNat ((0 : Nat) + (1 : Nat))).toI ==
 normHi (bend b1) (bend b2) &&
 true)) ||
 (↑i : Int) != k3 x &&
 !(((itD (3 : Nat) (3 : Int) (SN a1 a2 b1 b2 x)).el (↑i : Int).toNat (0 : Nat)).toI == ofLo (0 : Int) (0 : Int) &&
 (((itD (3 : Nat) (3 : Int) (SN a1 a2 b1 b2 x)).el (↑i : Int).toNat ((0 : Nat) + (1 : Nat))).toI ==
 ofHi (0 : Int) (0 : Int) &&
 true))) =
 true →
 false = true) ∧
 (((↑i : Int) == k3 x &&
 !(((itD (3 : Nat) (3 : Int) (SN a1 a2 b1 b2 x)).el (↑i : Int).toNat (0 : Nat)).toI == normLo (bend b1) (bend b2) &&
 (((itD (3 : Nat) (3 : Int) (SN a1 a2 b1 b2 x)).el (↑i : Int).toNat ((0 : Nat) + (1 : Nat))).toI ==
 normHi (bend b1) (bend b2) &&
 true)) ||
 (↑i : Int) != k3 x &&
 !(((itD (3 : Nat) (3 : Int) (SN a1 a2 b1 b2 x)).el (↑i : Int).toNat (0 : Nat)).toI == ofLo (0 : Int) (0 : Int) &&
 (((itD (3 : Nat) (3 : Int) (SN a1 a2 b1 b2 x)).el (↑i : Int).toNat ((0 : Nat) + (1 : Nat))).toI ==
 ofHi (0 : Int) (0 : Int) &&
 true))) =
 false →
 ∃ (j : Nat),
 j.le (3 : Nat) ∧
 (9 : Nat) - j < (9 : Nat) - i ∧
 IntKind.i64.wrap ((↑i : Int) + (1 : Int)) = (↑j : Int) ∧
 k3 x = k3 x ∧
 normLo (bend b1) (bend b2) = normLo (bend b1) (bend b2) ∧
 normHi (bend b1) (bend b2) = normHi (bend b1) (bend b2) ∧
 (SN a1 a2 b1 b2 x).fst = (SN a1 a2 b1 b2 x).fst ∧
 List.map
 (fun (j : Nat) =>
 [D.i (itvLo (3 : Int) (SN a1 a2 b1 b2 x).fst (SN a1 a2 b1 b2 x).snd (↑j : Int)),
 D.i (itvHi (3 : Int) (SN a1 a2 b1 b2 x).fst (SN a1 a2 b1 b2 x).snd (↑j : Int))])
 (List.range (3 : Nat)) =
 List.map
 (fun (j : Nat) =>
 [D.i (itvLo (3 : Int) (SN a1 a2 b1 b2 x).fst (SN a1 a2 b1 b2 x).snd (↑j : Int)),
 D.i (itvHi (3 : Int) (SN a1 a2 b1 b2 x).fst (SN a1 a2 b1 b2 x).snd (↑j : Int))])
 (List.range (3 : Nat)) ∧
 (3 : Int) = (3 : Int) ∧
 (SN a1 a2 b1 b2 x).fst = (SN a1 a2 b1 b2 x).fst ∧
 ∀ (o : Nat), o < nat_lit 49 → (SN a1 a2 b1 b2 x).snd o = (SN a1 a2 b1 b2 x).snd o)) ∧
 ((decide ((↑i : Int) < (3 : Int)) && !(SN a1 a2 b1 b2 x).fst) = false →
 Sm (SN a1 a2 b1 b2 x).snd ∧
 (itD (3 : Nat) (3 : Int) (SN a1 a2 b1 b2 x)).len ≤ (1000 : Nat) ∧
 nrightP (SN a1 a2 b1 b2 x).fst (itD (3 : Nat) (3 : Int) (SN a1 a2 b1 b2 x)) (3 : Int) (SN a1 a2 b1 b2 x).fst
 (SN a1 a2 b1 b2 x).snd =
 true))) (by kernel_rfl) ?_
    simp only [raw0, true_and, and_true, implies_true, Nat.mul_one, Int.toNat_natCast, c7, decide_eq_true_eq, decide_eq_false_iff_not, Nat.zero_add, forall_const, Nat.le_eq, at_iff, bne_iff_ne, bne_eq_false_iff_eq, and_self, and_self_left, Nat.reduceAdd]
    have hk := k3_in x
    have ht : topN 3 = 3 := rfl
    rw [ht]
    simp only [itD_len]
    have h36 : (0 : Int) ≤ 3 ∧ (3 : Int) ≤ 6 := by omega
    have hx : isVarP 3 (k3 x) = true := isVar_of h36 hk
    have g0 : Good 3 (false, fun _ => 0) := good_none h36 false
    have gM : Good 3 (SM a1 a2 x) := good_met (good_fg g0 _) _ _ _
    have gN : Good 3 (SN a1 a2 b1 b2 x) := good_met (good_fg gM _) _ _ _
    have nA := norm_in (bend_in a1) (bend_in a2)
    have nB := norm_in (bend_in b1) (bend_in b2)
    have hM : (SM a1 a2 x).1 = decide (normHi (bend a1) (bend a2) < normLo (bend a1) (bend a2)) := by
      have := set_none g0 hx ⟨nA.1, nA.2.1⟩ nA.2.2
      rwa [Bool.false_or] at this
    have hN : (SN a1 a2 b1 b2 x).1 = (decide (normHi (bend a1) (bend a2) < normLo (bend a1) (bend a2)) || decide (normHi (bend b1) (bend b2) < normLo (bend b1) (bend b2))) := by
      have := set_none gM hx ⟨nB.1, nB.2.1⟩ nB.2.2
      rwa [hM] at this
    refine ⟨⟨true, rfl⟩, g0, by decide, ⟨gM, by decide, true, rfl, rfl, trivial, rfl, fun _ _ => rfl, rfl, rfl, trivial, rfl, fun _ _ => rfl⟩, fun h => ?_, fun _ => ⟨⟨0, by omega, rfl⟩, fun i hi => ⟨fun h => ?_, fun h => ⟨gN.sm, by decide, itD_right gN⟩⟩⟩⟩
    · rw [← hN, hM] at h; simp at h
    · simp only [Bool.and_eq_true, decide_eq_true_eq, Bool.not_eq_true'] at h
      obtain ⟨h3, hF⟩ := h
      have hF' := hF
      rw [hN, Bool.or_eq_false_iff, decide_eq_false_iff_not, decide_eq_false_iff_not] at hF'
      have hMf : (SM a1 a2 x).1 = false := by rw [hM, decide_eq_false_iff_not]; exact hF'.1
      have hv : isVarP 3 (i : Int) = true := isVar_of h36 (by omega)
      obtain ⟨e1, e2⟩ := itD_el (m := 3) (j := i) (by omega) 3 (SN a1 a2 b1 b2 x)
      obtain ⟨f1, f2⟩ := set_itv (lo := normLo (bend b1) (bend b2)) (hi := normHi (bend b1) (bend b2)) gM hMf hx hv (by omega)
      obtain ⟨f3, f4⟩ := set_itv (lo := normLo (bend a1) (bend a2)) (hi := normHi (bend a1) (bend a2)) g0 rfl hx hv (by omega)
      have q1 : ((itD 3 3 (SN a1 a2 b1 b2 x)).el i 0).toI = if (i : Int) = k3 x then normLo (bend b1) (bend b2) else if (i : Int) = k3 x then normLo (bend a1) (bend a2) else itvLo 3 false (fun _ => 0) i := e1.trans (f1.trans (by rw [show itvLo 3 (SM a1 a2 x).1 (SM a1 a2 x).2 i = _ from f3]))
      have q2 : ((itD 3 3 (SN a1 a2 b1 b2 x)).el i 1).toI = if (i : Int) = k3 x then normHi (bend b1) (bend b2) else if (i : Int) = k3 x then normHi (bend a1) (bend a2) else itvHi 3 false (fun _ => 0) i := e2.trans (f2.trans (by rw [show itvHi 3 (SM a1 a2 x).1 (SM a1 a2 x).2 i = _ from f4]))
      obtain ⟨z1, z2⟩ := itv_exact g0 rfl hv
      dsimp only at z1 z2
      rw [z1] at q1
      rw [z2] at q2
      have o1 : ofLo 0 0 = 0 := rfl
      have o2 : ofHi 0 0 = 0 := rfl
      rw [o1, o2, q1, q2]
      refine ⟨fun _ => ⟨by omega, by omega⟩, fun _ => ⟨by omega, by omega⟩, fun h => ?_, fun _ => ⟨i + 1, by omega, by omega, wr _ (by omega)⟩⟩
      exfalso
      by_cases hik : (i : Int) = k3 x
      · rw [if_pos hik, if_pos hik] at h; simp [hik] at h
      · rw [if_neg hik, if_neg hik, if_neg hik, if_neg hik] at h; simp [hik] at h
  · trivial
end Go.Proofs.Ytefdfggkhnahiaa.Sx.Z
