/-
  ZoneChains' contract.
-/
import Derived.Test.YtmdoafhohflhdaaYr
namespace Go.Proofs.Ytmdoafhohflhdaa.Sx.Z
open Go.RowKit
/-- What is known of the first differences. -/
structure CH (k : Nat) (z : Zs) (g : Nat → Int) : Prop where
  good : Good 6 z
  pts : ∀ v, Pt 6 z v ↔ v 0 = 0 ∧ (∀ i, 1 ≤ i → i ≤ 6 → -2147483648 ≤ v i ∧ v i ≤ 2147483647) ∧ ∀ i, i < k → v (i + 2) - v (i + 1) = g (i + 1) - g i
  first : -2147483648 ≤ g 0 ∧ g 0 ≤ 2147483647
  near : ∀ i, i < k → -999 ≤ g (i + 1) - g i ∧ g (i + 1) - g i ≤ 999
theorem ch_zero (first : Int) (h : -2147483648 ≤ first ∧ first ≤ 2147483647) : CH 0 (false, topF 6) (fun _ => first) := by
  have g := good_top 6
  rw [show topN 6 = 6 from rfl] at g
  refine ⟨g, fun v => ⟨fun p => ⟨p.2.1, fun i h1 h2 => pt_range g p (show i < 7 by omega), fun i hi => absurd hi (Nat.not_lt_zero i)⟩, fun ⟨v0, h1, _⟩ => ?_⟩, h, fun i hi => absurd hi (Nat.not_lt_zero i)⟩
  refine pt_top (n := 6) v0 fun i hi => ?_
  by_cases hz : i = 0
  · rw [hz, v0]; omega
  · have hi' : i < 7 := hi
    exact h1 i (by omega) (by omega)
theorem ch_step {k : Nat} {z : Zs} {g : Nat → Int} (h : CH k z g) (hk : k < 5) {d : Int} (hd : -999 ≤ d ∧ d ≤ 999) : CH (k + 1) (bndZ 6 k ((k : Int) + 1) (0 - d) (bndZ 6 ((k : Int) + 1) k d z)) (upd g (k + 1) (g k + d)) := by
  have e1 : isEndP 6 (k : Int) = true := isEnd_of (by omega) (by omega)
  have e2 : isEndP 6 ((k : Int) + 1) = true := isEnd_of (by omega) (by omega)
  have g1 := good_bnd h.good ((k : Int) + 1) k d
  have a1 : ((k : Int) + 1).toNat = k + 1 := by omega
  have a2 : ((k : Int) + 1 + 1).toNat = k + 2 := by omega
  refine ⟨good_bnd g1 _ _ _, fun v => ?_, by rw [upd_ne (by omega)]; exact h.first, fun i hi => ?_⟩
  · rw [bnd_pt g1 e1 e2, bnd_pt h.good e2 e1, h.pts, a1, a2]
    constructor
    · rintro ⟨⟨⟨v0, h1, h2⟩, h3⟩, h4⟩
      refine ⟨v0, h1, fun i hi => ?_⟩
      by_cases hik : i < k
      · rw [upd_ne (by omega), upd_ne (by omega)]; exact h2 i hik
      · obtain rfl : i = k := by omega
        rw [upd_at, upd_ne (by omega)]; omega
    · rintro ⟨v0, h1, h2⟩
      have := h2 k (by omega)
      rw [upd_at, upd_ne (by omega)] at this
      refine ⟨⟨⟨v0, h1, fun i hi => ?_⟩, by omega⟩, by omega⟩
      have := h2 i (by omega)
      rwa [upd_ne (by omega), upd_ne (by omega)] at this
  · by_cases hik : i < k
    · rw [upd_ne (by omega), upd_ne (by omega)]; exact h.near i hik
    · obtain rfl : i = k := by omega
      rw [upd_at, upd_ne (by omega)]; omega
theorem sh_zero {n : Int} {a : Nat} {z : Zs} : shZ n a 0 z = z := by
  obtain ⟨c, f⟩ := z
  refine Prod.ext rfl (funext fun o => ?_)
  show shiftF n c f a 0 o = f o
  unfold shiftF shTo
  (repeat' split) <;> omega
theorem ch_copy {k : Nat} {z : Zs} {g : Nat → Int} (h : CH k z g) : CH k (copyZ 6 0 0 0 z) g := by
  refine ⟨good_copy h.good 0 0 0, fun v => ?_, h.first, h.near⟩
  rw [← h.pts]
  have hv : isVarP 6 0 = true := rfl
  have he : isEndP 6 0 = true := rfl
  cases hc : z.1 with
  | true =>
    have e : copyZ 6 0 0 0 z = z := if_pos (by rw [hc]; simp)
    rw [e]
  | false =>
    have e : copyZ 6 0 0 0 z = shZ 6 ((0 : Int) + 1).toNat 0 (cp2 6 0 0 z) := by
      unfold copyZ
      rw [if_neg (by rw [hc, hv, he]; simp), if_neg (by simp), if_pos (by simp)]
    rw [e, sh_zero]
    unfold cp2
    rw [bnd_pt (good_bnd h.good _ _ _) (isEnd_nought 6) he, bnd_pt h.good he (isEnd_nought 6)]
    have q0 : ((-1 : Int) + 1).toNat = 0 := rfl
    have q1 : ((0 : Int) + 1).toNat = 1 := rfl
    rw [q0, q1]
    constructor
    · exact fun h => h.1.1
    · intro p
      have := pt_range h.good p (show 1 < 7 by omega)
      have := p.2.1
      exact ⟨⟨p, by omega⟩, by omega⟩
theorem ch_tele {k : Nat} {v g : Nat → Int} (h : ∀ i, i < k → v (i + 2) - v (i + 1) = g (i + 1) - g i) : ∀ i, i ≤ k → v (i + 1) - v 1 = g i - g 0
  | 0, _ => by show v 1 - v 1 = _; omega
  | i + 1, hi => by
    have := ch_tele h i (by omega)
    have := h i (by omega)
    show v (i + 2) - v 1 = _
    omega
theorem ch_far {k : Nat} {z : Zs} {g : Nat → Int} (h : CH k z g) : ∀ i, i ≤ k → -(999 * (i : Int)) ≤ g i - g 0 ∧ g i - g 0 ≤ 999 * (i : Int)
  | 0, _ => by omega
  | i + 1, hi => by
    have := ch_far h i (by omega)
    have := h.near i (by omega)
    omega
theorem ch_some {z : Zs} {g : Nat → Int} (h : CH 5 z g) : z.1 = false := by
  have p : Pt 6 z (fun i => if i = 0 then 0 else g (i - 1) - g 0) := (h.pts _).2 ⟨if_pos rfl, fun i h1 h2 => by
    have := ch_far h (i - 1) (by omega)
    rw [if_neg (by omega)]; omega, fun i hi => by
    rw [if_neg (by omega), if_neg (by omega), show i + 2 - 1 = i + 1 by omega, show i + 1 - 1 = i by omega]; omega⟩
  exact p.1
theorem ch_d {z : Zs} {g : Nat → Int} (h : CH 5 z g) {i j : Nat} (hi : i ≤ 5) (hj : j ≤ 5) : z.2 ((i + 1) * 7 + (j + 1)) = g i - g j := by
  have p := pt_at h.good (ch_some h) (j := j + 1) (show j + 1 < 7 by omega)
  obtain ⟨_, _, h2⟩ := (h.pts _).1 p
  have a := ch_tele (v := fun k => z.2 (k * 7 + (j + 1)) - z.2 (0 * 7 + (j + 1))) (g := g) h2 i hi
  have b := ch_tele (v := fun k => z.2 (k * 7 + (j + 1)) - z.2 (0 * 7 + (j + 1))) (g := g) h2 j hj
  have d := h.good.diag (j + 1) (show j + 1 < 7 by omega)
  omega
/-- With the first one at five. -/
def fiveZ (z : Zs) : Zs := bndZ 6 (-1) 0 (-5) (bndZ 6 0 (-1) 5 z)
theorem five_good {k : Nat} {z : Zs} {g : Nat → Int} (h : CH k z g) : Good 6 (fiveZ z) := good_bnd (good_bnd h.good _ _ _) _ _ _
theorem five_pt {z : Zs} {g : Nat → Int} (h : CH 5 z g) (v : Nat → Int) : Pt 6 (fiveZ z) v ↔ Pt 6 z v ∧ v 1 = 5 := by
  have he : isEndP 6 0 = true := rfl
  unfold fiveZ
  rw [bnd_pt (good_bnd h.good _ _ _) (isEnd_nought 6) he, bnd_pt h.good he (isEnd_nought 6)]
  have q0 : ((-1 : Int) + 1).toNat = 0 := rfl
  have q1 : ((0 : Int) + 1).toNat = 1 := rfl
  rw [q0, q1]
  constructor
  · rintro ⟨⟨p, h1⟩, h2⟩
    have := p.2.1
    exact ⟨p, by omega⟩
  · rintro ⟨p, h1⟩
    have := p.2.1
    exact ⟨⟨p, by omega⟩, by omega⟩
theorem five_some {z : Zs} {g : Nat → Int} (h : CH 5 z g) : (fiveZ z).1 = false := by
  have p : Pt 6 (fiveZ z) (fun i => if i = 0 then 0 else 5 + g (i - 1) - g 0) := (five_pt h _).2 ⟨(h.pts _).2 ⟨if_pos rfl, fun i h1 h2 => by
    have := ch_far h (i - 1) (by omega)
    rw [if_neg (by omega)]; omega, fun i hi => by
    rw [if_neg (by omega), if_neg (by omega), show i + 2 - 1 = i + 1 by omega, show i + 1 - 1 = i by omega]; omega⟩, by rw [if_neg (by omega)]; show 5 + g 0 - g 0 = 5; omega⟩
  exact p.1
theorem five_d {z : Zs} {g : Nat → Int} (h : CH 5 z g) {i : Nat} (hi : i ≤ 5) : (fiveZ z).2 ((i + 1) * 7) = 5 + g i - g 0 ∧ 0 - (fiveZ z).2 (i + 1) = 5 + g i - g 0 := by
  have gf := five_good h
  have hs := five_some h
  have p := (five_pt h _).1 (pt_at gf hs (j := 0) (show 0 < 7 by omega))
  have q := (five_pt h _).1 (pt_at gf hs (j := i + 1) (show i + 1 < 7 by omega))
  have a := ch_tele (v := fun k => (fiveZ z).2 (k * 7 + 0) - (fiveZ z).2 (0 * 7 + 0)) (g := g) ((h.pts _).1 p.1).2.2 i hi
  have b := ch_tele (v := fun k => (fiveZ z).2 (k * 7 + (i + 1)) - (fiveZ z).2 (0 * 7 + (i + 1))) (g := g) ((h.pts _).1 q.1).2.2 i hi
  have p1 := p.2
  have q1 := q.2
  have d0 := gf.diag 0 (show 0 < 7 by omega)
  have d1 := gf.diag (i + 1) (show i + 1 < 7 by omega)
  simp only [Nat.zero_mul, Nat.zero_add, Nat.add_zero] at a b p1 q1 d0 d1
  omega
def zchainsS : FSpec := fun ds _ => match ds with
  | [.d dby, .i first] => some { val := .one (.sc (.bool (.sym (true)))), vc := [-2147483648 ≤ first ∧ first ≤ 2147483647] }
  | _ => none
def zchainsC : Con := con [.sc (.rows 21), .sc (.int .i32)] zchainsS
theorem zchains_ok : ConOK Try.prog 8 zchainsC := by
  refine fn_ob tt_ok mixed Try.func8 rfl (fun _ _ => by kernel_rfl) (A := fun ds => ⟨fun _ => Cons.of [(12, topC), (21, boundC), (23, copyC), (16, copiesC), (19, zitvC), (33, iconstC)], fun k => match k, ds with | 4, [.d dby, .i first] => some { ι := Nat × Zs × (Nat → Int), pre := fun _ q => q.1 ≤ 5 ∧ CH q.1 q.2.1 q.2.2, μ := fun q => 6 - q.1, st := fun s q => famR s [(7, .one (.sc (.int .i64 (.sym ((q.1 : Nat)))))), (6, .one (.sc (.osl 3 (idOf s 6) (.lit 0) (.sym (q.1 + 1)))))] [0, 5] [(idOf s 6, .orow 3 (rowI (q.1 + 1) q.2.2)), (idOf s 5, .own 27 (zs (.sym 6) (.sym (q.2.1).1) (q.2.1).2))] [] } | 15, [.d dby, .i first] => some { ι := Nat, pre := fun _ i => i ≤ 6, μ := fun i => 7 - i, st := fun s i => famR s [(9, .one (.sc (.int .i64 (.sym ((i : Nat))))))] [5, 6] [] [5, 6] } | 18, [.d dby, .i first] => some { ι := Nat, pre := fun _ i => i ≤ 6, μ := fun i => 7 - i, st := fun s i => famR s [(10, .one (.sc (.int .i64 (.sym ((i : Nat))))))] [5, 6, 9] [] [5, 6] } | 24, [.d dby, .i first] => some { ι := Nat, pre := fun _ i => i ≤ 6, μ := fun i => 7 - i, st := fun s i => famR s [(12, .one (.sc (.int .i64 (.sym ((i : Nat))))))] [6, 11] [] [6, 11] } | _, _ => none, fun k => match k, ds with | 9, [.d dby, .i first] => some { ι := Int, pre := fun _ q => -999 ≤ q ∧ q ≤ 999, μ := fun _ => 0, st := fun s q => famR s [(8, .one (.sc (.int .i64 (.sym (q)))))] [0, 5, 6, 7] [] [5, 6] } | _, _ => none⟩) (fun _ _ => (cons_cons top_ok (cons_cons bound_ok (cons_cons copy_ok (cons_cons copies_ok (cons_cons zitv_ok (cons_cons iconst_ok cons_nil))))))) (by kernel_rfl) ?_
  intro ds fr
  unfold zchainsS
  split
  · rename_i rowby first
    refine kmp (q := (-2147483648 : Int) ≤ first ∧ first ≤ (2147483647 : Int) →
 (∃ (i : Nat × Zs × (Nat → Int)),
 (i.fst ≤ (5 : Nat) ∧ CH i.fst i.snd.fst i.snd.snd) ∧
 (0 : Int) = (↑i.fst : Int) ∧
 nat_lit 1 = i.fst + (1 : Nat) ∧
 rowby.rows = rowby.rows ∧
 [[D.i (IntKind.i64.wrap first)]] = List.map (fun (j : Nat) => [D.i (i.snd.snd j)]) (List.range (i.fst + (1 : Nat))) ∧
 topN (6 : Int) = (6 : Int) ∧ false = i.snd.fst.fst ∧ ∀ (o : Nat), o < nat_lit 49 → topF (6 : Int) o = i.snd.fst.snd o) ∧
 ∀ (i : Nat × Zs × (Nat → Int)),
 i.fst ≤ (5 : Nat) ∧ CH i.fst i.snd.fst i.snd.snd →
 (decide ((↑i.fst : Int) < (5 : Int)) = true →
 ((decide ((↑i.fst : Int) < (↑rowby.len : Int)) = true →
 ((0 : Int) ≤ (↑i.fst : Int) ∧ (↑i.fst : Int) < (↑rowby.len : Int)) ∧
 ∃ (i_1 : Int),
 ((-999 : Int) ≤ i_1 ∧ i_1 ≤ (999 : Int)) ∧
 (IntKind.i64.wrap (rowby.el (↑i.fst : Int).toNat (0 : Nat)).toI).tmod (1000 : Int) = i_1 ∧
 rowby.rows = rowby.rows ∧
 i.fst + (1 : Nat) = i.fst + (1 : Nat) ∧
 (↑i.fst : Int) = (↑i.fst : Int) ∧
 (6 : Int) = (6 : Int) ∧
 i.snd.fst.fst = i.snd.fst.fst ∧
 (∀ (o : Nat), o < nat_lit 49 → i.snd.fst.snd o = i.snd.fst.snd o) ∧
 List.map (fun (j : Nat) => [D.i (i.snd.snd j)]) (List.range (i.fst + (1 : Nat))) =
 List.map (fun (j : Nat) => [D.i (i.snd.snd j)]) (List.range (i.fst + (1 : Nat)))) ∧
 (decide ((↑i.fst : Int) < (↑rowby.len : Int)) = false →
 ∃ (i_1 : Int),
 ((-999 : Int) ≤ i_1 ∧ i_1 ≤ (999 : Int)) ∧
 (0 : Int) = i_1 ∧
 rowby.rows = rowby.rows ∧
 i.fst + (1 : Nat) = i.fst + (1 : Nat) ∧
 (↑i.fst : Int) = (↑i.fst : Int) ∧
 (6 : Int) = (6 : Int) ∧
 i.snd.fst.fst = i.snd.fst.fst ∧
 (∀ (o : Nat), o < nat_lit 49 → i.snd.fst.snd o = i.snd.fst.snd o) ∧
 List.map (fun (j : Nat) => [D.i (i.snd.snd j)]) (List.range (i.fst + (1 : Nat))) =
 List.map (fun (j : Nat) => [D.i (i.snd.snd j)]) (List.range (i.fst + (1 : Nat))))) ∧
 ∀ (i_1 : Int),
 (-999 : Int) ≤ i_1 ∧ i_1 ≤ (999 : Int) →
 Sm i.snd.fst.snd ∧
 Sm (bndF (6 : Int) i.snd.fst.fst i.snd.fst.snd (IntKind.i64.wrap ((↑i.fst : Int) + (1 : Int))) (↑i.fst : Int) i_1) ∧
 ((0 : Int) ≤ (↑i.fst : Int) ∧ (↑i.fst : Int) < (↑(i.fst + (1 : Nat)) : Int)) ∧
 (↑i.fst : Int).toNat < (rowI (i.fst + (1 : Nat)) i.snd.snd).len ∧
 i.fst + (1 : Nat) = (rowI (i.fst + (1 : Nat)) i.snd.snd).len ∧
 (i.fst + (1 : Nat) +
 ((D.l [[D.i (IntKind.i64.wrap (((rowI (i.fst + (1 : Nat)) i.snd.snd).el (↑i.fst : Int).toNat (0 : Nat)).toI + i_1))]]).sub
 (0 : Nat) ((0 : Nat) + (1 : Nat))).len) *
 (8 : Nat) ≤
 (140737488355328 : Nat) ∧
 (0 : Nat) + (1 : Nat) ≤
 (D.l [[D.i (IntKind.i64.wrap (((rowI (i.fst + (1 : Nat)) i.snd.snd).el (↑i.fst : Int).toNat (0 : Nat)).toI + i_1))]]).len ∧
 ∃ (j : Nat × Zs × (Nat → Int)),
 (j.fst ≤ (5 : Nat) ∧ CH j.fst j.snd.fst j.snd.snd) ∧
 (6 : Nat) - j.fst < (6 : Nat) - i.fst ∧
 IntKind.i64.wrap ((↑i.fst : Int) + (1 : Int)) = (↑j.fst : Int) ∧
 i.fst + (1 : Nat) +
 ((D.l
 [[D.i
 (IntKind.i64.wrap
 (((rowI (i.fst + (1 : Nat)) i.snd.snd).el (↑i.fst : Int).toNat (0 : Nat)).toI + i_1))]]).sub
 (0 : Nat) ((0 : Nat) + (1 : Nat))).len =
 j.fst + (1 : Nat) ∧
 rowby.rows = rowby.rows ∧
 List.map (fun (j : Nat) => [D.i (i.snd.snd j)]) (List.range (i.fst + (1 : Nat))) ++
 List.drop (0 : Nat)
 (List.take ((0 : Nat) + (1 : Nat))
 [[D.i
 (IntKind.i64.wrap
 (((rowI (i.fst + (1 : Nat)) i.snd.snd).el (↑i.fst : Int).toNat (0 : Nat)).toI + i_1))]]) =
 List.map (fun (j_1 : Nat) => [D.i (j.snd.snd j_1)]) (List.range (j.fst + (1 : Nat))) ∧
 (6 : Int) = (6 : Int) ∧
 bndC (6 : Int)
 (bndC (6 : Int) i.snd.fst.fst i.snd.fst.snd (IntKind.i64.wrap ((↑i.fst : Int) + (1 : Int))) (↑i.fst : Int)
 i_1)
 (bndF (6 : Int) i.snd.fst.fst i.snd.fst.snd (IntKind.i64.wrap ((↑i.fst : Int) + (1 : Int))) (↑i.fst : Int)
 i_1)
 (↑i.fst : Int) (IntKind.i64.wrap ((↑i.fst : Int) + (1 : Int))) (IntKind.i64.wrap ((0 : Int) - i_1)) =
 j.snd.fst.fst ∧
 ∀ (o : Nat),
 o < nat_lit 49 →
 bndF (6 : Int)
 (bndC (6 : Int) i.snd.fst.fst i.snd.fst.snd (IntKind.i64.wrap ((↑i.fst : Int) + (1 : Int)))
 (↑i.fst : Int) i_1)
 (bndF (6 : Int) i.snd.fst.fst i.snd.fst.snd (IntKind.i64.wrap ((↑i.fst : Int) + (1 : Int)))
 (↑i.fst : Int) i_1)
 (↑i.fst : Int) (IntKind.i64.wrap ((↑i.fst : Int) + (1 : Int))) (IntKind.i64.wrap ((0 : Int) - i_1))
 o =
 j.snd.fst.snd o) ∧
 (decide ((↑i.fst : Int) < (5 : Int)) = false →
 Good (6 : Int) (i.snd.fst.fst, i.snd.fst.snd) ∧
 ((!true || (copyZ (6 : Int) (0 : Int) (0 : Int) (0 : Int) (i.snd.fst.fst, i.snd.fst.snd)).fst) = true → false = true) ∧
 ((!true || (copyZ (6 : Int) (0 : Int) (0 : Int) (0 : Int) (i.snd.fst.fst, i.snd.fst.snd)).fst) = false →
 (∃ (i_1 : Nat),
 i_1.le (6 : Nat) ∧
 (0 : Int) = (↑i_1 : Int) ∧
 i.fst + (1 : Nat) = i.fst + (1 : Nat) ∧
 (6 : Int) = (6 : Int) ∧
 (copyZ (6 : Int) (0 : Int) (0 : Int) (0 : Int) (i.snd.fst.fst, i.snd.fst.snd)).fst =
 (copyZ (6 : Int) (0 : Int) (0 : Int) (0 : Int) (i.snd.fst.fst, i.snd.fst.snd)).fst ∧
 (∀ (o : Nat),
 o < nat_lit 49 →
 (copyZ (6 : Int) (0 : Int) (0 : Int) (0 : Int) (i.snd.fst.fst, i.snd.fst.snd)).snd o =
 (copyZ (6 : Int) (0 : Int) (0 : Int) (0 : Int) (i.snd.fst.fst, i.snd.fst.snd)).snd o) ∧
 List.map (fun (j : Nat) => [D.i (i.snd.snd j)]) (List.range (i.fst + (1 : Nat))) =
 List.map (fun (j : Nat) => [D.i (i.snd.snd j)]) (List.range (i.fst + (1 : Nat)))) ∧
 ∀ (i_1 : Nat),
 i_1.le (6 : Nat) →
 (decide ((↑i_1 : Int) < (6 : Int)) = true →
 (∃ (i_2 : Nat),
 i_2.le (6 : Nat) ∧
 (0 : Int) = (↑i_2 : Int) ∧
 i.fst + (1 : Nat) = i.fst + (1 : Nat) ∧
 (↑i_1 : Int) = (↑i_1 : Int) ∧
 (6 : Int) = (6 : Int) ∧
 (copyZ (6 : Int) (0 : Int) (0 : Int) (0 : Int) (i.snd.fst.fst, i.snd.fst.snd)).fst =
 (copyZ (6 : Int) (0 : Int) (0 : Int) (0 : Int) (i.snd.fst.fst, i.snd.fst.snd)).fst ∧
 (∀ (o : Nat),
 o < nat_lit 49 →
 (copyZ (6 : Int) (0 : Int) (0 : Int) (0 : Int) (i.snd.fst.fst, i.snd.fst.snd)).snd o =
 (copyZ (6 : Int) (0 : Int) (0 : Int) (0 : Int) (i.snd.fst.fst, i.snd.fst.snd)).snd o) ∧
 List.map (fun (j : Nat) => [D.i (i.snd.snd j)]) (List.range (i.fst + (1 : Nat))) =
 List.map (fun (j : Nat) => [D.i (i.snd.snd j)]) (List.range (i.fst + (1 : Nat)))) ∧
 ∀ (i_2 : Nat),
 i_2.le (6 : Nat) →
 (decide ((↑i_2 : Int) < (6 : Int)) = true →
 ((0 : Int) ≤ IntKind.i64.wrap ((↑i_1 : Int) + (1 : Int)) ∧
 IntKind.i64.wrap ((↑i_1 : Int) + (1 : Int)) < (↑(7 : Nat) : Int)) ∧
 ((0 : Int) ≤ IntKind.i64.wrap ((↑i_2 : Int) + (1 : Int)) ∧
 IntKind.i64.wrap ((↑i_2 : Int) + (1 : Int)) < (↑(7 : Nat) : Int)) ∧
 nat_lit 0 +
 ((IntKind.i64.wrap ((↑i_1 : Int) + (1 : Int))).toNat * (7 : Nat) +
 (IntKind.i64.wrap ((↑i_2 : Int) + (1 : Int))).toNat * (1 : Nat)) <
 nat_lit 49 ∧
 ((0 : Int) ≤ (↑i_1 : Int) ∧ (↑i_1 : Int) < (↑(i.fst + (1 : Nat)) : Int)) ∧
 (↑i_1 : Int).toNat < (rowI (i.fst + (1 : Nat)) i.snd.snd).len ∧
 ((0 : Int) ≤ (↑i_2 : Int) ∧ (↑i_2 : Int) < (↑(i.fst + (1 : Nat)) : Int)) ∧
 (↑i_2 : Int).toNat < (rowI (i.fst + (1 : Nat)) i.snd.snd).len ∧
 (((copyZ (6 : Int) (0 : Int) (0 : Int) (0 : Int) (i.snd.fst.fst, i.snd.fst.snd)).snd
 (nat_lit 0 +
 ((IntKind.i64.wrap ((↑i_1 : Int) + (1 : Int))).toNat * (7 : Nat) +
 (IntKind.i64.wrap ((↑i_2 : Int) + (1 : Int))).toNat * (1 : Nat))) !=
 IntKind.i64.wrap
 (((rowI (i.fst + (1 : Nat)) i.snd.snd).el (↑i_1 : Int).toNat (0 : Nat)).toI -
 ((rowI (i.fst + (1 : Nat)) i.snd.snd).el (↑i_2 : Int).toNat (0 : Nat)).toI)) =
 true →
 false = true) ∧
 (((copyZ (6 : Int) (0 : Int) (0 : Int) (0 : Int) (i.snd.fst.fst, i.snd.fst.snd)).snd
 (nat_lit 0 +
 ((IntKind.i64.wrap ((↑i_1 : Int) + (1 : Int))).toNat * (7 : Nat) +
 (IntKind.i64.wrap ((↑i_2 : Int) + (1 : Int))).toNat * (1 : Nat))) !=
 IntKind.i64.wrap
 (((rowI (i.fst + (1 : Nat)) i.snd.snd).el (↑i_1 : Int).toNat (0 : Nat)).toI -
 ((rowI (i.fst + (1 : Nat)) i.snd.snd).el (↑i_2 : Int).toNat (0 : Nat)).toI)) =
 false →
 ∃ (j : Nat),
 j.le (6 : Nat) ∧
 (7 : Nat) - j < (7 : Nat) - i_2 ∧
 IntKind.i64.wrap ((↑i_2 : Int) + (1 : Int)) = (↑j : Int) ∧
 i.fst + (1 : Nat) = i.fst + (1 : Nat) ∧
 (↑i_1 : Int) = (↑i_1 : Int) ∧
 (6 : Int) = (6 : Int) ∧
 (copyZ (6 : Int) (0 : Int) (0 : Int) (0 : Int) (i.snd.fst.fst, i.snd.fst.snd)).fst =
 (copyZ (6 : Int) (0 : Int) (0 : Int) (0 : Int) (i.snd.fst.fst, i.snd.fst.snd)).fst ∧
 (∀ (o : Nat),
 o < nat_lit 49 →
 (copyZ (6 : Int) (0 : Int) (0 : Int) (0 : Int) (i.snd.fst.fst, i.snd.fst.snd)).snd
 o =
 (copyZ (6 : Int) (0 : Int) (0 : Int) (0 : Int)
 (i.snd.fst.fst, i.snd.fst.snd)).snd
 o) ∧
 List.map (fun (j : Nat) => [D.i (i.snd.snd j)]) (List.range (i.fst + (1 : Nat))) =
 List.map (fun (j : Nat) => [D.i (i.snd.snd j)]) (List.range (i.fst + (1 : Nat))))) ∧
 (decide ((↑i_2 : Int) < (6 : Int)) = false →
 ∃ (j : Nat),
 j.le (6 : Nat) ∧
 (7 : Nat) - j < (7 : Nat) - i_1 ∧
 IntKind.i64.wrap ((↑i_1 : Int) + (1 : Int)) = (↑j : Int) ∧
 i.fst + (1 : Nat) = i.fst + (1 : Nat) ∧
 (6 : Int) = (6 : Int) ∧
 (copyZ (6 : Int) (0 : Int) (0 : Int) (0 : Int) (i.snd.fst.fst, i.snd.fst.snd)).fst =
 (copyZ (6 : Int) (0 : Int) (0 : Int) (0 : Int) (i.snd.fst.fst, i.snd.fst.snd)).fst ∧
 (∀ (o : Nat),
 o < nat_lit 49 →
 (copyZ (6 : Int) (0 : Int) (0 : Int) (0 : Int) (i.snd.fst.fst, i.snd.fst.snd)).snd o =
 (copyZ (6 : Int) (0 : Int) (0 : Int) (0 : Int) (i.snd.fst.fst, i.snd.fst.snd)).snd o) ∧
 List.map (fun (j : Nat) => [D.i (i.snd.snd j)]) (List.range (i.fst + (1 : Nat))) =
 List.map (fun (j : Nat) => [D.i (i.snd.snd j)]) (List.range (i.fst + (1 : Nat))))) ∧
 (decide ((↑i_1 : Int) < (6 : Int)) = false →
 Sm (copyZ (6 : Int) (0 : Int) (0 : Int) (0 : Int) (i.snd.fst.fst, i.snd.fst.snd)).snd ∧
 Sm
 (bndF (6 : Int) (copyZ (6 : Int) (0 : Int) (0 : Int) (0 : Int) (i.snd.fst.fst, i.snd.fst.snd)).fst
 (copyZ (6 : Int) (0 : Int) (0 : Int) (0 : Int) (i.snd.fst.fst, i.snd.fst.snd)).snd (0 : Int) (-1 : Int) (5 : Int)) ∧
 (∃ (i_2 : Nat),
 i_2.le (6 : Nat) ∧
 (0 : Int) = (↑i_2 : Int) ∧
 i.fst + (1 : Nat) = i.fst + (1 : Nat) ∧
 List.map (fun (j : Nat) => [D.i (i.snd.snd j)]) (List.range (i.fst + (1 : Nat))) =
 List.map (fun (j : Nat) => [D.i (i.snd.snd j)]) (List.range (i.fst + (1 : Nat))) ∧
 (6 : Int) = (6 : Int) ∧
 bndC (6 : Int)
 (bndC (6 : Int) (copyZ (6 : Int) (0 : Int) (0 : Int) (0 : Int) (i.snd.fst.fst, i.snd.fst.snd)).fst
 (copyZ (6 : Int) (0 : Int) (0 : Int) (0 : Int) (i.snd.fst.fst, i.snd.fst.snd)).snd (0 : Int) (-1 : Int)
 (5 : Int))
 (bndF (6 : Int) (copyZ (6 : Int) (0 : Int) (0 : Int) (0 : Int) (i.snd.fst.fst, i.snd.fst.snd)).fst
 (copyZ (6 : Int) (0 : Int) (0 : Int) (0 : Int) (i.snd.fst.fst, i.snd.fst.snd)).snd (0 : Int) (-1 : Int)
 (5 : Int))
 (-1 : Int) (0 : Int) (-5 : Int) =
 bndC (6 : Int)
 (bndC (6 : Int) (copyZ (6 : Int) (0 : Int) (0 : Int) (0 : Int) (i.snd.fst.fst, i.snd.fst.snd)).fst
 (copyZ (6 : Int) (0 : Int) (0 : Int) (0 : Int) (i.snd.fst.fst, i.snd.fst.snd)).snd (0 : Int) (-1 : Int)
 (5 : Int))
 (bndF (6 : Int) (copyZ (6 : Int) (0 : Int) (0 : Int) (0 : Int) (i.snd.fst.fst, i.snd.fst.snd)).fst
 (copyZ (6 : Int) (0 : Int) (0 : Int) (0 : Int) (i.snd.fst.fst, i.snd.fst.snd)).snd (0 : Int) (-1 : Int)
 (5 : Int))
 (-1 : Int) (0 : Int) (-5 : Int) ∧
 ∀ (o : Nat),
 o < nat_lit 49 →
 bndF (6 : Int)
 (bndC (6 : Int) (copyZ (6 : Int) (0 : Int) (0 : Int) (0 : Int) (i.snd.fst.fst, i.snd.fst.snd)).fst
 (copyZ (6 : Int) (0 : Int) (0 : Int) (0 : Int) (i.snd.fst.fst, i.snd.fst.snd)).snd (0 : Int)
 (-1 : Int) (5 : Int))
 (bndF (6 : Int) (copyZ (6 : Int) (0 : Int) (0 : Int) (0 : Int) (i.snd.fst.fst, i.snd.fst.snd)).fst
 (copyZ (6 : Int) (0 : Int) (0 : Int) (0 : Int) (i.snd.fst.fst, i.snd.fst.snd)).snd (0 : Int)
 (-1 : Int) (5 : Int))
 (-1 : Int) (0 : Int) (-5 : Int) o =
 bndF (6 : Int)
 (bndC (6 : Int) (copyZ (6 : Int) (0 : Int) (0 : Int) (0 : Int) (i.snd.fst.fst, i.snd.fst.snd)).fst
 (copyZ (6 : Int) (0 : Int) (0 : Int) (0 : Int) (i.snd.fst.fst, i.snd.fst.snd)).snd (0 : Int)
 (-1 : Int) (5 : Int))
 (bndF (6 : Int) (copyZ (6 : Int) (0 : Int) (0 : Int) (0 : Int) (i.snd.fst.fst, i.snd.fst.snd)).fst
 (copyZ (6 : Int) (0 : Int) (0 : Int) (0 : Int) (i.snd.fst.fst, i.snd.fst.snd)).snd (0 : Int)
 (-1 : Int) (5 : Int))
 (-1 : Int) (0 : Int) (-5 : Int) o) ∧
 ∀ (i_2 : Nat),
 i_2.le (6 : Nat) →
 (decide ((↑i_2 : Int) < (6 : Int)) = true →
 Sm
 (bndF (6 : Int)
 (bndC (6 : Int) (copyZ (6 : Int) (0 : Int) (0 : Int) (0 : Int) (i.snd.fst.fst, i.snd.fst.snd)).fst
 (copyZ (6 : Int) (0 : Int) (0 : Int) (0 : Int) (i.snd.fst.fst, i.snd.fst.snd)).snd (0 : Int) (-1 : Int)
 (5 : Int))
 (bndF (6 : Int) (copyZ (6 : Int) (0 : Int) (0 : Int) (0 : Int) (i.snd.fst.fst, i.snd.fst.snd)).fst
 (copyZ (6 : Int) (0 : Int) (0 : Int) (0 : Int) (i.snd.fst.fst, i.snd.fst.snd)).snd (0 : Int) (-1 : Int)
 (5 : Int))
 (-1 : Int) (0 : Int) (-5 : Int)) ∧
 ((0 : Int) ≤ (↑i_2 : Int) ∧ (↑i_2 : Int) < (↑(i.fst + (1 : Nat)) : Int)) ∧
 (↑i_2 : Int).toNat < (rowI (i.fst + (1 : Nat)) i.snd.snd).len ∧
 nat_lit 0 < i.fst + (1 : Nat) ∧
 nat_lit 0 < (rowI (i.fst + (1 : Nat)) i.snd.snd).len ∧
 ((!(itvLo (6 : Int)
 (bndC (6 : Int)
 (bndC (6 : Int)
 (copyZ (6 : Int) (0 : Int) (0 : Int) (0 : Int) (i.snd.fst.fst, i.snd.fst.snd)).fst
 (copyZ (6 : Int) (0 : Int) (0 : Int) (0 : Int) (i.snd.fst.fst, i.snd.fst.snd)).snd
 (0 : Int) (-1 : Int) (5 : Int))
 (bndF (6 : Int)
 (copyZ (6 : Int) (0 : Int) (0 : Int) (0 : Int) (i.snd.fst.fst, i.snd.fst.snd)).fst
 (copyZ (6 : Int) (0 : Int) (0 : Int) (0 : Int) (i.snd.fst.fst, i.snd.fst.snd)).snd
 (0 : Int) (-1 : Int) (5 : Int))
 (-1 : Int) (0 : Int) (-5 : Int))
 (bndF (6 : Int)
 (bndC (6 : Int)
 (copyZ (6 : Int) (0 : Int) (0 : Int) (0 : Int) (i.snd.fst.fst, i.snd.fst.snd)).fst
 (copyZ (6 : Int) (0 : Int) (0 : Int) (0 : Int) (i.snd.fst.fst, i.snd.fst.snd)).snd
 (0 : Int) (-1 : Int) (5 : Int))
 (bndF (6 : Int)
 (copyZ (6 : Int) (0 : Int) (0 : Int) (0 : Int) (i.snd.fst.fst, i.snd.fst.snd)).fst
 (copyZ (6 : Int) (0 : Int) (0 : Int) (0 : Int) (i.snd.fst.fst, i.snd.fst.snd)).snd
 (0 : Int) (-1 : Int) (5 : Int))
 (-1 : Int) (0 : Int) (-5 : Int))
 (↑i_2 : Int) ==
 ofLo
 (IntKind.i64.wrap
 (IntKind.i64.wrap
 ((5 : Int) +
 ((rowI (i.fst + (1 : Nat)) i.snd.snd).el (↑i_2 : Int).toNat (0 : Nat)).toI) -
 ((rowI (i.fst + (1 : Nat)) i.snd.snd).el (nat_lit 0) (0 : Nat)).toI))
 (IntKind.i64.wrap
 (IntKind.i64.wrap
 ((5 : Int) +
 ((rowI (i.fst + (1 : Nat)) i.snd.snd).el (↑i_2 : Int).toNat (0 : Nat)).toI) -
 ((rowI (i.fst + (1 : Nat)) i.snd.snd).el (nat_lit 0) (0 : Nat)).toI)) &&
 (itvHi (6 : Int)
 (bndC (6 : Int)
 (bndC (6 : Int)
 (copyZ (6 : Int) (0 : Int) (0 : Int) (0 : Int) (i.snd.fst.fst, i.snd.fst.snd)).fst
 (copyZ (6 : Int) (0 : Int) (0 : Int) (0 : Int) (i.snd.fst.fst, i.snd.fst.snd)).snd
 (0 : Int) (-1 : Int) (5 : Int))
 (bndF (6 : Int)
 (copyZ (6 : Int) (0 : Int) (0 : Int) (0 : Int) (i.snd.fst.fst, i.snd.fst.snd)).fst
 (copyZ (6 : Int) (0 : Int) (0 : Int) (0 : Int) (i.snd.fst.fst, i.snd.fst.snd)).snd
 (0 : Int) (-1 : Int) (5 : Int))
 (-1 : Int) (0 : Int) (-5 : Int))
 (bndF (6 : Int)
 (bndC (6 : Int)
 (copyZ (6 : Int) (0 : Int) (0 : Int) (0 : Int) (i.snd.fst.fst, i.snd.fst.snd)).fst
 (copyZ (6 : Int) (0 : Int) (0 : Int) (0 : Int) (i.snd.fst.fst, i.snd.fst.snd)).snd
 (0 : Int) (-1 : Int) (5 : Int))
 (bndF (6 : Int)
 (copyZ (6 : Int) (0 : Int) (0 : Int) (0 : Int) (i.snd.fst.fst, i.snd.fst.snd)).fst
 (copyZ (6 : Int) (0 : Int) (0 : Int) (0 : Int) (i.snd.fst.fst, i.snd.fst.snd)).snd
 (0 : Int) (-1 : Int) (5 : Int))
 (-1 : Int) (0 : Int) (-5 : Int))
 (↑i_2 : Int) ==
 ofHi
 (IntKind.i64.wrap
 (IntKind.i64.wrap
 ((5 : Int) +
 ((rowI (i.fst + (1 : Nat)) i.snd.snd).el (↑i_2 : Int).toNat (0 : Nat)).toI) -
 ((rowI (i.fst + (1 : Nat)) i.snd.snd).el (nat_lit 0) (0 : Nat)).toI))
 (IntKind.i64.wrap
 (IntKind.i64.wrap
 ((5 : Int) +
 ((rowI (i.fst + (1 : Nat)) i.snd.snd).el (↑i_2 : Int).toNat (0 : Nat)).toI) -
 ((rowI (i.fst + (1 : Nat)) i.snd.snd).el (nat_lit 0) (0 : Nat)).toI)) &&
 true))) =
 true →
 false = true) ∧
 ((!(itvLo (6 : Int)
 (bndC (6 : Int)
 (bndC (6 : Int)
 (copyZ (6 : Int) (0 : Int) (0 : Int) (0 : Int) (i.snd.fst.fst, i.snd.fst.snd)).fst
 (copyZ (6 : Int) (0 : Int) (0 : Int) (0 : Int) (i.snd.fst.fst, i.snd.fst.snd)).snd
 (0 : Int) (-1 : Int) (5 : Int))
 (bndF (6 : Int)
 (copyZ (6 : Int) (0 : Int) (0 : Int) (0 : Int) (i.snd.fst.fst, i.snd.fst.snd)).fst
 (copyZ (6 : Int) (0 : Int) (0 : Int) (0 : Int) (i.snd.fst.fst, i.snd.fst.snd)).snd
 (0 : Int) (-1 : Int) (5 : Int))
 (-1 : Int) (0 : Int) (-5 : Int))
 (bndF (6 : Int)
 (bndC (6 : Int)
 (copyZ (6 : Int) (0 : Int) (0 : Int) (0 : Int) (i.snd.fst.fst, i.snd.fst.snd)).fst
 (copyZ (6 : Int) (0 : Int) (0 : Int) (0 : Int) (i.snd.fst.fst, i.snd.fst.snd)).snd
 (0 : Int) (-1 : Int) (5 : Int))
 (bndF (6 : Int)
 (copyZ (6 : Int) (0 : Int) (0 : Int) (0 : Int) (i.snd.fst.fst, i.snd.fst.snd)).fst
 (copyZ (6 : Int) (0 : Int) (0 : Int) (0 : Int) (i.snd.fst.fst, i.snd.fst.snd)).snd
 (0 : Int) (-1 : Int) (5 : Int))
 (-1 : Int) (0 : Int) (-5 : Int))
 (↑i_2 : Int) ==
 ofLo
 (IntKind.i64.wrap
 (IntKind.i64.wrap
 ((5 : Int) +
 ((rowI (i.fst + (1 : Nat)) i.snd.snd).el (↑i_2 : Int).toNat (0 : Nat)).toI) -
 ((rowI (i.fst + (1 : Nat)) i.snd.snd).el (nat_lit 0) (0 : Nat)).toI))
 (IntKind.i64.wrap
 (IntKind.i64.wrap
 ((5 : Int) +
 ((rowI (i.fst + (1 : Nat)) i.snd.snd).el (↑i_2 : Int).toNat (0 : Nat)).toI) -
 ((rowI (i.fst + (1 : Nat)) i.snd.snd).el (nat_lit 0) (0 : Nat)).toI)) &&
 (itvHi (6 : Int)
 (bndC (6 : Int)
 (bndC (6 : Int)
 (copyZ (6 : Int) (0 : Int) (0 : Int) (0 : Int) (i.snd.fst.fst, i.snd.fst.snd)).fst
 (copyZ (6 : Int) (0 : Int) (0 : Int) (0 : Int) (i.snd.fst.fst, i.snd.fst.snd)).snd
 (0 : Int) (-1 : Int) (5 : Int))
 (bndF (6 : Int)
 (copyZ (6 : Int) (0 : Int) (0 : Int) (0 : Int) (i.snd.fst.fst, i.snd.fst.snd)).fst
 (copyZ (6 : Int) (0 : Int) (0 : Int) (0 : Int) (i.snd.fst.fst, i.snd.fst.snd)).snd
 (0 : Int) (-1 : Int) (5 : Int))
 (-1 : Int) (0 : Int) (-5 : Int))
 (bndF (6 : Int)
 (bndC (6 : Int)
 (copyZ (6 : Int) (0 : Int) (0 : Int) (0 : Int) (i.snd.fst.fst, i.snd.fst.snd)).fst
 (copyZ (6 : Int) (0 : Int) (0 : Int) (0 : Int) (i.snd.fst.fst, i.snd.fst.snd)).snd
 (0 : Int) (-1 : Int) (5 : Int))
 (bndF (6 : Int)
 (copyZ (6 : Int) (0 : Int) (0 : Int) (0 : Int) (i.snd.fst.fst, i.snd.fst.snd)).fst
 (copyZ (6 : Int) (0 : Int) (0 : Int) (0 : Int) (i.snd.fst.fst, i.snd.fst.snd)).snd
 (0 : Int) (-1 : Int) (5 : Int))
 (-1 : Int) (0 : Int) (-5 : Int))
 (↑i_2 : Int) ==
 ofHi
 (IntKind.i64.wrap
 (IntKind.i64.wrap
 ((5 : Int) +
 ((rowI (i.fst + (1 : Nat)) i.snd.snd).el (↑i_2 : Int).toNat (0 : Nat)).toI) -
 ((rowI (i.fst + (1 : Nat)) i.snd.snd).el (nat_lit 0) (0 : Nat)).toI))
 (IntKind.i64.wrap
 (IntKind.i64.wrap
 ((5 : Int) +
 ((rowI (i.fst + (1 : Nat)) i.snd.snd).el (↑i_2 : Int).toNat (0 : Nat)).toI) -
 ((rowI (i.fst + (1 : Nat)) i.snd.snd).el (nat_lit 0) (0 : Nat)).toI)) &&
 true))) =
 false →
 ∃ (j : Nat),
 j.le (6 : Nat) ∧
 (7 : Nat) - j < (7 : Nat) - i_2 ∧
 IntKind.i64.wrap ((↑i_2 : Int) + (1 : Int)) = (↑j : Int) ∧
 i.fst + (1 : Nat) = i.fst + (1 : Nat) ∧
 List.map (fun (j : Nat) => [D.i (i.snd.snd j)]) (List.range (i.fst + (1 : Nat))) =
 List.map (fun (j : Nat) => [D.i (i.snd.snd j)]) (List.range (i.fst + (1 : Nat))) ∧
 (6 : Int) = (6 : Int) ∧
 bndC (6 : Int)
 (bndC (6 : Int)
 (copyZ (6 : Int) (0 : Int) (0 : Int) (0 : Int) (i.snd.fst.fst, i.snd.fst.snd)).fst
 (copyZ (6 : Int) (0 : Int) (0 : Int) (0 : Int) (i.snd.fst.fst, i.snd.fst.snd)).snd
 (0 : Int) (-1 : Int) (5 : Int))
 (bndF (6 : Int)
 (copyZ (6 : Int) (0 : Int) (0 : Int) (0 : Int) (i.snd.fst.fst, i.snd.fst.snd)).fst
 (copyZ (6 : Int) (0 : Int) (0 : Int) (0 : Int) (i.snd.fst.fst, i.snd.fst.snd)).snd
 (0 : Int) (-1 : Int) (5 : Int))
 (-1 : Int) (0 : Int) (-5 : Int) =
 bndC (6 : Int)
 (bndC (6 : Int)
 (copyZ (6 : Int) (0 : Int) (0 : Int) (0 : Int) (i.snd.fst.fst, i.snd.fst.snd)).fst
 (copyZ (6 : Int) (0 : Int) (0 : Int) (0 : Int) (i.snd.fst.fst, i.snd.fst.snd)).snd
 (0 : Int) (-1 : Int) (5 : Int))
 (bndF (6 : Int)
 (copyZ (6 : Int) (0 : Int) (0 : Int) (0 : Int) (i.snd.fst.fst, i.snd.fst.snd)).fst
 (copyZ (6 : Int) (0 : Int) (0 : Int) (0 : Int) (i.snd.fst.fst, i.snd.fst.snd)).snd
 (0 : Int) (-1 : Int) (5 : Int))
 (-1 : Int) (0 : Int) (-5 : Int) ∧
 ∀ (o : Nat),
 o < nat_lit 49 →
 bndF (6 : Int)
 (bndC (6 : Int)
 (copyZ (6 : Int) (0 : Int) (0 : Int) (0 : Int)
 (i.snd.fst.fst, i.snd.fst.snd)).fst
 (copyZ (6 : Int) (0 : Int) (0 : Int) (0 : Int)
 (i.snd.fst.fst, i.snd.fst.snd)).snd
 (0 : Int) (-1 : Int) (5 : Int))
 (bndF (6 : Int)
 (copyZ (6 : Int) (0 : Int) (0 : Int) (0 : Int)
 (i.snd.fst.fst, i.snd.fst.snd)).fst
 (copyZ (6 : Int) (0 : Int) (0 : Int) (0 : Int)
 (i.snd.fst.fst, i.snd.fst.snd)).snd
 (0 : Int) (-1 : Int) (5 : Int))
 (-1 : Int) (0 : Int) (-5 : Int) o =
 bndF (6 : Int)
 (bndC (6 : Int)
 (copyZ (6 : Int) (0 : Int) (0 : Int) (0 : Int)
 (i.snd.fst.fst, i.snd.fst.snd)).fst
 (copyZ (6 : Int) (0 : Int) (0 : Int) (0 : Int)
 (i.snd.fst.fst, i.snd.fst.snd)).snd
 (0 : Int) (-1 : Int) (5 : Int))
 (bndF (6 : Int)
 (copyZ (6 : Int) (0 : Int) (0 : Int) (0 : Int)
 (i.snd.fst.fst, i.snd.fst.snd)).fst
 (copyZ (6 : Int) (0 : Int) (0 : Int) (0 : Int)
 (i.snd.fst.fst, i.snd.fst.snd)).snd
 (0 : Int) (-1 : Int) (5 : Int))
 (-1 : Int) (0 : Int) (-5 : Int) o)) ∧
 (decide ((↑i_2 : Int) < (6 : Int)) = false → true = true))))) (by kernel_rfl) ?_
    simp only [raw0, true_and, and_true, implies_true, Nat.mul_one, Int.toNat_natCast, c7, decide_eq_true_eq, decide_eq_false_iff_not, Nat.zero_add, forall_const, Nat.le_eq, at_iff, bne_iff_ne, bne_eq_false_iff_eq, and_self, and_self_left, Nat.reduceAdd]
    intro hf
    refine ⟨⟨(0, (false, topF 6), fun _ => first), ⟨by omega, ch_zero first hf⟩, rfl, rfl, by rw [wr _ (by omega)]; rfl, rfl, rfl, fun _ _ => rfl⟩, fun q hq => ⟨fun h1 => ⟨⟨fun h2 => ⟨by omega, _, tmod_any _, rfl⟩, fun h2 => ⟨0, by omega, rfl⟩⟩, fun d hd => ?_⟩, fun h1 => ?_⟩⟩
    · obtain ⟨k, z, g⟩ := q
      obtain ⟨hk, ch⟩ := hq
      dsimp only at hk ch h1 ⊢
      have hfar := ch_far ch k (Nat.le_refl k)
      have h0 := ch.first
      rw [wr ((k : Int) + 1) (by omega), wr (0 - d) (by omega), rowI_el (by omega), rowI_len]
      rw [wr (g k + d) (by omega)]
      have e1 : ((D.l [[D.i (g k + d)]]).sub 0 1).len = 1 := rfl
      have g1 := good_bnd ch.good ((k : Int) + 1) k d
      rw [e1]
      refine ⟨ch.good.sm, g1.sm, by omega, by omega, rfl, by omega, Nat.le_refl _, (k + 1, bndZ 6 k ((k : Int) + 1) (0 - d) (bndZ 6 ((k : Int) + 1) k d z), upd g (k + 1) (g k + d)), ⟨by omega, ch_step ch (by omega) hd⟩, by dsimp only; omega, rfl, rfl, ?_, rfl, fun _ _ => rfl⟩
      dsimp only
      rw [List.range_succ (n := k + 1), List.map_append, List.map_singleton, upd_at]
      congr 1
      refine List.map_congr_left fun j hj => ?_
      have := List.mem_range.1 hj
      rw [upd_ne (by omega)]
    · obtain ⟨k, z, g⟩ := q
      obtain ⟨hk, ch⟩ := hq
      dsimp only at hk ch h1 ⊢
      obtain rfl : k = 5 := by omega
      have cc : CH 5 (copyZ 6 0 0 0 (z.1, z.2)) g := ch_copy ch
      have hs := ch_some cc
      have h0 := ch.first
      have sm := cc.good.sm
      have f1 : bndF 6 (copyZ 6 0 0 0 (z.1, z.2)).1 (copyZ 6 0 0 0 (z.1, z.2)).2 0 (-1) 5 = (bndZ 6 0 (-1) 5 (copyZ 6 0 0 0 (z.1, z.2))).2 := rfl
      have f2 : bndC 6 (copyZ 6 0 0 0 (z.1, z.2)).1 (copyZ 6 0 0 0 (z.1, z.2)).2 0 (-1) 5 = (bndZ 6 0 (-1) 5 (copyZ 6 0 0 0 (z.1, z.2))).1 := rfl
      rw [f1, f2]
      have f3 : bndF 6 (bndZ 6 0 (-1) 5 (copyZ 6 0 0 0 (z.1, z.2))).1 (bndZ 6 0 (-1) 5 (copyZ 6 0 0 0 (z.1, z.2))).2 (-1) 0 (-5) = (fiveZ (copyZ 6 0 0 0 (z.1, z.2))).2 := rfl
      have f4 : bndC 6 (bndZ 6 0 (-1) 5 (copyZ 6 0 0 0 (z.1, z.2))).1 (bndZ 6 0 (-1) 5 (copyZ 6 0 0 0 (z.1, z.2))).2 (-1) 0 (-5) = (fiveZ (copyZ 6 0 0 0 (z.1, z.2))).1 := rfl
      rw [f3, f4]
      have gz : Good 6 (z.1, z.2) := ch.good
      clear f1 f2 f3 f4
      generalize copyZ 6 0 0 0 (z.1, z.2) = w at *
      have g5 := good_bnd cc.good 0 (-1) 5
      have gf := five_good cc
      have sf := five_some cc
      refine ⟨gz, (fun h => by rw [hs] at h; cases h), fun _ => ⟨⟨0, by omega, rfl⟩, fun i hi => ⟨fun h2 => ⟨⟨0, by omega, rfl⟩, fun j hj => ⟨fun h3 => ?_, fun h3 => ⟨i + 1, by omega, by omega, wr _ (by omega)⟩⟩⟩, fun h2 => ⟨sm, g5.sm, ⟨0, by omega, rfl⟩, fun j hj => fun h3 => ?_⟩⟩⟩⟩
      · have a := ch_far ch i (by omega)
        have b := ch_far ch j (by omega)
        have dd := ch_d cc (i := i) (j := j) (by omega) (by omega)
        rw [wr ((i : Int) + 1) (by omega), wr ((j : Int) + 1) (by omega), rowI_el (by omega), rowI_el (by omega), wr (g i - g j) (by omega), rowI_len, show ((i : Int) + 1).toNat = i + 1 by omega, show ((j : Int) + 1).toNat = j + 1 by omega]
        exact ⟨by omega, by omega, by omega, by omega, by omega, by omega, by omega, fun h => absurd dd h, fun _ => ⟨j + 1, by omega, by omega, by omega⟩⟩
      · have a := ch_far ch j (by omega)
        obtain ⟨d1, d2⟩ := five_d cc (i := j) (by omega)
        have vx := isVar_of (n := 6) (x := (j : Int)) (by omega) (by omega)
        obtain ⟨l1, l2⟩ := itv_exact gf sf vx
        rw [rowI_el (by omega), rowI_el (by omega), wr (5 + g j) (by omega), wr (5 + g j - g 0) (by omega), rowI_len]
        rw [show ((j : Int) + 1).toNat = j + 1 by omega] at l1 l2
        have o1 : ofLo (5 + g j - g 0) (5 + g j - g 0) = 5 + g j - g 0 := by unfold ofLo; rw [if_neg (by omega)]; omega
        have o2 : ofHi (5 + g j - g 0) (5 + g j - g 0) = 5 + g j - g 0 := by unfold ofHi; rw [if_neg (by omega)]; omega
        rw [l1, l2, o1, o2, d1, d2]
        exact ⟨gf.sm, by omega, by omega, by omega, by omega, (fun h => by simp at h), fun _ => ⟨j + 1, by omega, by omega, wr _ (by omega)⟩⟩
  · trivial
end Go.Proofs.Ytmdoafhohflhdaa.Sx.Z
