/-
  QueueTwo's contract.
-/
import Derived.Test.YtbcbcambkjhhhaaCg
namespace Go.Proofs.Ytbcbcambkjhhhaa.Sx.Z
open Go.RowKit
def mgD (q : D) (k : Nat) : D := .l ((List.range k).map fun j => [D.i (q.el j 0).toI, D.i (q.el j 1).toI])
theorem mgD_app (q : D) (i : Nat) : (mgD q i).rows ++ ([[D.i (q.el i 0).toI, D.i (q.el i 1).toI]].take (0 + 1)).drop 0 = (mgD q (i + 1)).rows := by
  show (List.range i).map _ ++ [[_, _]] = (List.range (i + 1)).map _
  rw [List.range_succ, List.map_append]; rfl
theorem two_same {f g : Int × Int → Int × Int → Int × Int} {x y : Int × Int} {X Y : D} (hl : X.len = Y.len) (hf : f x y = g x y) (hp : ∀ j, j < X.len → f (pr X j) (pr Y j) = g (pr X j) (pr Y j)) : sameE ((twoL f x y X Y).1, (twoL f x y X Y).2) (prD (twoD f X Y).len (pr (twoD f X Y))) ((twoL g x y X Y).1, (twoL g x y X Y).2) (twoD g X Y) = true := by
  have e1 : twoL f x y X Y = twoL g x y X Y := by unfold twoL; rw [if_pos hl, if_pos hl, hf]
  have e2 : twoD f X Y = twoD g X Y := by unfold twoD; rw [if_pos hl, if_pos hl]; exact prD_congr hp
  rw [e1, e2]
  exact same_pr _ _
theorem hasQ_congr {l h : Int} {X q q' : D} (hl : q.len = q'.len) (h0 : ∀ j, j < q.len → (q.el j 0).toI = (q'.el j 0).toI ∧ (q.el j 1).toI = (q'.el j 1).toI) : hasQ l h X q = hasQ l h X q' := by
  unfold hasQ
  rw [← hl]
  congr 1
  rw [Bool.eq_iff_iff, allQ_iff, allQ_iff]
  have e : ∀ j, j < q.len → hasJ ((l, h), X) q j = hasJ ((l, h), X) q' j := fun j hj => by
    unfold hasJ
    rw [(h0 j hj).1, (h0 j hj).2]
  exact ⟨fun x j hj => (e j hj).symm.trans (x j hj), fun x j hj => (e j hj).trans (x j hj)⟩
theorem mgD_el {q : D} {i j : Nat} (h : j < i) : ((mgD q i).el j 0).toI = (q.el j 0).toI ∧ ((mgD q i).el j 1).toI = (q.el j 1).toI := by
  have e : (mgD q i).rows.getD j [] = [D.i (q.el j 0).toI, D.i (q.el j 1).toI] := by
    show ((List.range i).map _).getD j [] = _
    rw [List.getD_eq_getElem?_getD, List.getElem?_map, List.getElem?_range h]; rfl
  unfold D.el
  rw [e]
  exact ⟨rfl, rfl⟩
theorem sub_el {q : D} {i j k : Nat} (h : j < i) : (q.sub 0 i).el j k = q.el j k := by
  unfold D.el
  have e : (q.sub 0 i).rows.getD j [] = q.rows.getD j [] := by
    show ((q.rows.take i).drop 0).getD j [] = _
    rw [List.drop_zero, List.getD_eq_getElem?_getD, List.getElem?_take, if_pos h]; rfl
  rw [e]
theorem sub_len {q : D} {i : Nat} (h : i ≤ q.len) : (q.sub 0 i).len = i := by
  show ((q.rows.take i).drop 0).length = i
  rw [List.drop_zero, List.length_take]
  exact Nat.min_eq_left h
theorem mg_has {l h : Int} {X q : D} {i : Nat} (hi : i ≤ q.len) : hasQ l h X ((mgD q i).sub 0 (0 + i)) = hasQ l h X (q.sub 0 i) := by
  have hm : (mgD q i).len = i := by show ((List.range i).map _).length = i; simp
  rw [Nat.zero_add]
  refine hasQ_congr ((sub_len (by omega)).trans (sub_len hi).symm) fun j hj => ?_
  rw [sub_len (by omega)] at hj
  rw [sub_el hj, sub_el hj, sub_el hj, sub_el hj]
  exact mgD_el hj
theorem win_jn {a b : Int × Int} (ha : Nm a) (hb : Nm b) : winI a (jnI a b) = true := by
  rw [← jn_eq ha hb]
  obtain ⟨a0, a1⟩ := a
  obtain ⟨b0, b1⟩ := b
  unfold winI rjnI nrm
  rcases ha with ha | ha <;> rcases hb with hb | hb <;> simp at ha hb ⊢ <;> grind
theorem win_wd {a b : Int × Int} (ha : Nm a) (hb : Nm b) : winI (jnI a b) (wdI a b) = true := by
  rw [← jn_eq ha hb, ← (wd_nm ha hb).1]
  obtain ⟨a0, a1⟩ := a
  obtain ⟨b0, b1⟩ := b
  unfold winI rjnI rwdI nrm
  rcases ha with ha | ha <;> rcases hb with hb | hb <;> simp at ha hb ⊢ <;> grind
theorem winE_all {x y : Int × Int} {X Y : D} (hl : X.len = Y.len) (hx : winI x y = true) (hp : ∀ j, j < X.len → winI (pr X j) (pr Y j) = true) : winE x X y Y = true := by
  unfold winE
  rw [if_pos hl, allQ_iff.2 hp, hx]; rfl
def inQ (a : Int × Int) (A : D) (b : Int × Int) (B : D) (k : Nat) : Bool := (decide (a.1 ≥ b.1) && decide (a.2 ≤ b.2)) && allQ (fun j => decide ((pr A j).1 > (pr A j).2) || (decide ((pr B j).1 ≤ (pr A j).1) && decide ((pr A j).2 ≤ (pr B j).2))) k
theorem winE_in {x y : Int × Int} {X Y : D} (hl : X.len = Y.len) (hx : 0 ≤ x.2 ∧ x.1 = 0) : winE x X y Y = inQ x X y Y X.len := by
  unfold winE inQ
  rw [if_pos hl]
  have e : winI x y = (decide (x.1 ≥ y.1) && decide (x.2 ≤ y.2)) := by
    unfold winI
    rw [decide_eq_false (by omega), Bool.false_or]
  rw [e, Bool.and_comm]
  rfl
theorem inQ_up {x y : Int × Int} {X Y : D} (i : Nat) : (inQ x X y Y i && (decide ((X.el i (0 + 0)).toI > (X.el i (0 + 1)).toI) || decide ((Y.el i (0 + 0)).toI ≤ (X.el i (0 + 0)).toI) && decide ((X.el i (0 + 1)).toI ≤ (Y.el i (0 + 1)).toI))) = inQ x X y Y (i + 1) := by
  unfold inQ allQ
  rw [List.range_succ, List.all_append, Bool.and_assoc]
  congr 2
  simp only [List.all_cons, List.all_nil, Bool.and_true]
  rfl
noncomputable def qtwoS : FSpec := fun ds _ => match ds with
  | [.d _a, .d _b, .d _q] => some { val := .one (.sc (.bool (.lit true))), vc := [] }
  | _ => none
noncomputable def qtwoC : Con := con [.sc (.rows 149), .sc (.rows 149), .sc (.rows 60)] qtwoS
theorem qtwo_ok : ConOK Try.prog 4 qtwoC := by
  refine fn_ob tt_ok mixed Try.func4 rfl (fun _ _ => by kernel_rfl) (A := fun ds => ⟨fun _ => Cons.of [(21, qbuildC), (22, sendsC), (23, qjoinC), (24, qwidenC), (26, lfromC), (27, rtwoC), (25, rsameC), (28, qhasC), (29, rhasC), (30, qnoneC), (31, qwithinC)], fun k => match k, ds with | 7, [.d a, .d b, .d q] => some { ι := Nat, pre := fun _ k => k ≤ min q.len 20, μ := fun k => min q.len 20 + 1 - k, st := fun s k => famR s [(14, .one (.sc (.int .i64 (.sym ((k : Nat)))))), (13, .one (.sc (.osl 61 (s.nx - 1) (.lit 0) (.sym (k)))))] [2, 6, 7, 8, 9, 10, 11, 12] [(s.nx - 1, .orow 61 (mgD q k))] [7, 8, 10, 11] } | 15, [.d a, .d b, .d q] => some { ι := Nat, pre := fun _ k => k ≤ 3, μ := fun k => 4 - k, st := fun s k => famR s [(18, .one (.sc (.int .i64 (.sym ((k : Nat)))))), (17, .one (.sc (.bool (.sym (inQ (bL 3 4 a (min a.len 20)) (bD 3 4 a (min a.len 20)) (bL 3 4 b (min b.len 20)) (bD 3 4 b (min b.len 20)) k)))))] [6, 7, 8, 10, 11, 15, 16] [] [7, 8, 10, 11, 15, 16] } | _, _ => none, fun _ => none⟩) (fun _ _ => (cons_cons qbuild_ok (cons_cons sends_ok (cons_cons qjoin_ok (cons_cons qwiden_ok (cons_cons lfrom_ok (cons_cons rtwo_ok (cons_cons rsame_ok (cons_cons qhas_ok (cons_cons rhas_ok (cons_cons qnone_ok (cons_cons qwithin_ok cons_nil)))))))))))) (by kernel_rfl) ?_
  intro ds fr
  unfold qtwoS
  split
  · rename_i a b q
    refine kmp (q := ((1 : Int) ≤ (3 : Int) ∧ (3 : Int) ≤ (4 : Int)) ∧
 ((1 : Int) ≤ (4 : Int) ∧ (4 : Int) ≤ (100 : Int)) ∧
 ((1 : Int) ≤ (3 : Int) ∧ (3 : Int) ≤ (4 : Int)) ∧
 ((1 : Int) ≤ (4 : Int) ∧ (4 : Int) ≤ (100 : Int)) ∧
 (∃ (i : Nat),
 i.le (min q.len (20 : Nat)) ∧
 (0 : Int) = (↑i : Int) ∧
 i = (0 : Nat) ∧
 q.rows = q.rows ∧
 false = false ∧
 true = true ∧
 true = true ∧
 List.map (fun (j : Nat) => [D.i (q.el j (0 : Nat)).toI, D.i (q.el j (1 : Nat)).toI]) (List.range i) = [] ∧
 (bL (3 : Int) (4 : Int) a (min a.len (20 : Nat))).fst = (bL (3 : Int) (4 : Int) a (min a.len (20 : Nat))).fst ∧
 (bL (3 : Int) (4 : Int) a (min a.len (20 : Nat))).snd = (bL (3 : Int) (4 : Int) a (min a.len (20 : Nat))).snd ∧
 (bD (3 : Int) (4 : Int) a (min a.len (20 : Nat))).rows = (bD (3 : Int) (4 : Int) a (min a.len (20 : Nat))).rows ∧
 (bL (3 : Int) (4 : Int) a (min a.len (20 : Nat))).fst = (bL (3 : Int) (4 : Int) a (min a.len (20 : Nat))).fst ∧
 (bL (3 : Int) (4 : Int) a (min a.len (20 : Nat))).snd = (bL (3 : Int) (4 : Int) a (min a.len (20 : Nat))).snd ∧
 (bD (3 : Int) (4 : Int) a (min a.len (20 : Nat))).rows = (bD (3 : Int) (4 : Int) a (min a.len (20 : Nat))).rows ∧
 (bL (3 : Int) (4 : Int) b (min b.len (20 : Nat))).fst = (bL (3 : Int) (4 : Int) b (min b.len (20 : Nat))).fst ∧
 (bL (3 : Int) (4 : Int) b (min b.len (20 : Nat))).snd = (bL (3 : Int) (4 : Int) b (min b.len (20 : Nat))).snd ∧
 (bD (3 : Int) (4 : Int) b (min b.len (20 : Nat))).rows = (bD (3 : Int) (4 : Int) b (min b.len (20 : Nat))).rows ∧
 (bL (3 : Int) (4 : Int) b (min b.len (20 : Nat))).fst = (bL (3 : Int) (4 : Int) b (min b.len (20 : Nat))).fst ∧
 (bL (3 : Int) (4 : Int) b (min b.len (20 : Nat))).snd = (bL (3 : Int) (4 : Int) b (min b.len (20 : Nat))).snd ∧
 (bD (3 : Int) (4 : Int) b (min b.len (20 : Nat))).rows =
 (bD (3 : Int) (4 : Int) b (min b.len (20 : Nat))).rows) ∧
 ∀ (i : Nat),
 i.le (min q.len (20 : Nat)) →
 ((decide ((↑i : Int) < (↑q.len : Int)) && decide ((↑i : Int) < (20 : Int))) = true →
 ((0 : Int) ≤ (↑i : Int) ∧ (↑i : Int) < (↑q.len : Int)) ∧
 ((0 : Int) ≤ (↑i : Int) ∧ (↑i : Int) < (↑q.len : Int)) ∧
 i = (mgD q i).len ∧
 (i +
 ((D.l [[D.i (q.el (↑i : Int).toNat ((0 : Nat) + (0 : Nat))).toI, D.i (q.el (↑i : Int).toNat ((0 : Nat) + (1 : Nat))).toI]]).sub
 (0 : Nat) ((0 : Nat) + (1 : Nat))).len) *
 (16 : Nat) ≤
 (140737488355328 : Nat) ∧
 (0 : Nat) + (1 : Nat) ≤
 (D.l [[D.i (q.el (↑i : Int).toNat ((0 : Nat) + (0 : Nat))).toI, D.i (q.el (↑i : Int).toNat ((0 : Nat) + (1 : Nat))).toI]]).len ∧
 ∃ (j : Nat),
 j.le (min q.len (20 : Nat)) ∧
 min q.len (20 : Nat) + (1 : Nat) - j < min q.len (20 : Nat) + (1 : Nat) - i ∧
 IntKind.i64.wrap ((↑i : Int) + (1 : Int)) = (↑j : Int) ∧
 i +
 ((D.l
 [[D.i (q.el (↑i : Int).toNat ((0 : Nat) + (0 : Nat))).toI,
 D.i (q.el (↑i : Int).toNat ((0 : Nat) + (1 : Nat))).toI]]).sub
 (0 : Nat) ((0 : Nat) + (1 : Nat))).len =
 j ∧
 q.rows = q.rows ∧
 false = false ∧
 true = true ∧
 true = true ∧
 List.map (fun (j : Nat) => [D.i (q.el j (0 : Nat)).toI, D.i (q.el j (1 : Nat)).toI]) (List.range i) ++
 List.drop (0 : Nat)
 (List.take ((0 : Nat) + (1 : Nat))
 [[D.i (q.el (↑i : Int).toNat ((0 : Nat) + (0 : Nat))).toI,
 D.i (q.el (↑i : Int).toNat ((0 : Nat) + (1 : Nat))).toI]]) =
 List.map (fun (j : Nat) => [D.i (q.el j (0 : Nat)).toI, D.i (q.el j (1 : Nat)).toI]) (List.range j) ∧
 (bL (3 : Int) (4 : Int) a (min a.len (20 : Nat))).fst = (bL (3 : Int) (4 : Int) a (min a.len (20 : Nat))).fst ∧
 (bL (3 : Int) (4 : Int) a (min a.len (20 : Nat))).snd =
 (bL (3 : Int) (4 : Int) a (min a.len (20 : Nat))).snd ∧
 (bD (3 : Int) (4 : Int) a (min a.len (20 : Nat))).rows =
 (bD (3 : Int) (4 : Int) a (min a.len (20 : Nat))).rows ∧
 (bL (3 : Int) (4 : Int) a (min a.len (20 : Nat))).fst =
 (bL (3 : Int) (4 : Int) a (min a.len (20 : Nat))).fst ∧
 (bL (3 : Int) (4 : Int) a (min a.len (20 : Nat))).snd =
 (bL (3 : Int) (4 : Int) a (min a.len (20 : Nat))).snd ∧
 (bD (3 : Int) (4 : Int) a (min a.len (20 : Nat))).rows =
 (bD (3 : Int) (4 : Int) a (min a.len (20 : Nat))).rows ∧
 (bL (3 : Int) (4 : Int) b (min b.len (20 : Nat))).fst =
 (bL (3 : Int) (4 : Int) b (min b.len (20 : Nat))).fst ∧
 (bL (3 : Int) (4 : Int) b (min b.len (20 : Nat))).snd =
 (bL (3 : Int) (4 : Int) b (min b.len (20 : Nat))).snd ∧
 (bD (3 : Int) (4 : Int) b (min b.len (20 : Nat))).rows =
 (bD (3 : Int) (4 : Int) b (min b.len (20 : Nat))).rows ∧
 (bL (3 : Int) (4 : Int) b (min b.len (20 : Nat))).fst =
 (bL (3 : Int) (4 : Int) b (min b.len (20 : Nat))).fst ∧
 (bL (3 : Int) (4 : Int) b (min b.len (20 : Nat))).snd =
 (bL (3 : Int) (4 : Int) b (min b.len (20 : Nat))).snd ∧
 (bD (3 : Int) (4 : Int) b (min b.len (20 : Nat))).rows =
 (bD (3 : Int) (4 : Int) b (min b.len (20 : Nat))).rows) ∧
 ((decide ((↑i : Int) < (↑q.len : Int)) && decide ((↑i : Int) < (20 : Int))) = false →
 (bD (3 : Int) (4 : Int) a (min a.len (20 : Nat))).len ≤ (8796093022208 : Nat) ∧
 (bD (3 : Int) (4 : Int) a (min a.len (20 : Nat))).len ≤ (8796093022208 : Nat) ∧
 (twoD jnI (bD (3 : Int) (4 : Int) a (min a.len (20 : Nat))) (bD (3 : Int) (4 : Int) b (min b.len (20 : Nat)))).len ≤ (8796093022208 : Nat) ∧
 (bD (3 : Int) (4 : Int) a (min a.len (20 : Nat))).len ≤ (8796093022208 : Nat) ∧
 (prD (twoD jnI (bD (3 : Int) (4 : Int) a (min a.len (20 : Nat))) (bD (3 : Int) (4 : Int) b (min b.len (20 : Nat)))).len
 (pr (twoD jnI (bD (3 : Int) (4 : Int) a (min a.len (20 : Nat))) (bD (3 : Int) (4 : Int) b (min b.len (20 : Nat)))))).len ≤
 (8796093022208 : Nat) ∧
 ((!sameE
 ((twoL jnI
 ((bL (3 : Int) (4 : Int) a (min a.len (20 : Nat))).fst, (bL (3 : Int) (4 : Int) a (min a.len (20 : Nat))).snd)
 ((bL (3 : Int) (4 : Int) b (min b.len (20 : Nat))).fst, (bL (3 : Int) (4 : Int) b (min b.len (20 : Nat))).snd)
 (bD (3 : Int) (4 : Int) a (min a.len (20 : Nat))) (bD (3 : Int) (4 : Int) b (min b.len (20 : Nat)))).fst,
 (twoL jnI
 ((bL (3 : Int) (4 : Int) a (min a.len (20 : Nat))).fst, (bL (3 : Int) (4 : Int) a (min a.len (20 : Nat))).snd)
 ((bL (3 : Int) (4 : Int) b (min b.len (20 : Nat))).fst, (bL (3 : Int) (4 : Int) b (min b.len (20 : Nat))).snd)
 (bD (3 : Int) (4 : Int) a (min a.len (20 : Nat))) (bD (3 : Int) (4 : Int) b (min b.len (20 : Nat)))).snd)
 (prD (twoD jnI (bD (3 : Int) (4 : Int) a (min a.len (20 : Nat))) (bD (3 : Int) (4 : Int) b (min b.len (20 : Nat)))).len
 (pr (twoD jnI (bD (3 : Int) (4 : Int) a (min a.len (20 : Nat))) (bD (3 : Int) (4 : Int) b (min b.len (20 : Nat))))))
 ((twoL (rf false)
 ((bL (3 : Int) (4 : Int) a (min a.len (20 : Nat))).fst, (bL (3 : Int) (4 : Int) a (min a.len (20 : Nat))).snd)
 ((bL (3 : Int) (4 : Int) b (min b.len (20 : Nat))).fst, (bL (3 : Int) (4 : Int) b (min b.len (20 : Nat))).snd)
 (bD (3 : Int) (4 : Int) a (min a.len (20 : Nat))) (bD (3 : Int) (4 : Int) b (min b.len (20 : Nat)))).fst,
 (twoL (rf false)
 ((bL (3 : Int) (4 : Int) a (min a.len (20 : Nat))).fst, (bL (3 : Int) (4 : Int) a (min a.len (20 : Nat))).snd)
 ((bL (3 : Int) (4 : Int) b (min b.len (20 : Nat))).fst, (bL (3 : Int) (4 : Int) b (min b.len (20 : Nat))).snd)
 (bD (3 : Int) (4 : Int) a (min a.len (20 : Nat))) (bD (3 : Int) (4 : Int) b (min b.len (20 : Nat)))).snd)
 (twoD (rf false) (bD (3 : Int) (4 : Int) a (min a.len (20 : Nat))) (bD (3 : Int) (4 : Int) b (min b.len (20 : Nat))))) =
 false ∧
 True →
 (twoD wdI (bD (3 : Int) (4 : Int) a (min a.len (20 : Nat))) (bD (3 : Int) (4 : Int) b (min b.len (20 : Nat)))).len ≤
 (8796093022208 : Nat)) ∧
 ((!sameE
 ((twoL jnI
 ((bL (3 : Int) (4 : Int) a (min a.len (20 : Nat))).fst, (bL (3 : Int) (4 : Int) a (min a.len (20 : Nat))).snd)
 ((bL (3 : Int) (4 : Int) b (min b.len (20 : Nat))).fst, (bL (3 : Int) (4 : Int) b (min b.len (20 : Nat))).snd)
 (bD (3 : Int) (4 : Int) a (min a.len (20 : Nat))) (bD (3 : Int) (4 : Int) b (min b.len (20 : Nat)))).fst,
 (twoL jnI
 ((bL (3 : Int) (4 : Int) a (min a.len (20 : Nat))).fst, (bL (3 : Int) (4 : Int) a (min a.len (20 : Nat))).snd)
 ((bL (3 : Int) (4 : Int) b (min b.len (20 : Nat))).fst, (bL (3 : Int) (4 : Int) b (min b.len (20 : Nat))).snd)
 (bD (3 : Int) (4 : Int) a (min a.len (20 : Nat))) (bD (3 : Int) (4 : Int) b (min b.len (20 : Nat)))).snd)
 (prD
 (twoD jnI (bD (3 : Int) (4 : Int) a (min a.len (20 : Nat))) (bD (3 : Int) (4 : Int) b (min b.len (20 : Nat)))).len
 (pr (twoD jnI (bD (3 : Int) (4 : Int) a (min a.len (20 : Nat))) (bD (3 : Int) (4 : Int) b (min b.len (20 : Nat))))))
 ((twoL (rf false)
 ((bL (3 : Int) (4 : Int) a (min a.len (20 : Nat))).fst, (bL (3 : Int) (4 : Int) a (min a.len (20 : Nat))).snd)
 ((bL (3 : Int) (4 : Int) b (min b.len (20 : Nat))).fst, (bL (3 : Int) (4 : Int) b (min b.len (20 : Nat))).snd)
 (bD (3 : Int) (4 : Int) a (min a.len (20 : Nat))) (bD (3 : Int) (4 : Int) b (min b.len (20 : Nat)))).fst,
 (twoL (rf false)
 ((bL (3 : Int) (4 : Int) a (min a.len (20 : Nat))).fst, (bL (3 : Int) (4 : Int) a (min a.len (20 : Nat))).snd)
 ((bL (3 : Int) (4 : Int) b (min b.len (20 : Nat))).fst, (bL (3 : Int) (4 : Int) b (min b.len (20 : Nat))).snd)
 (bD (3 : Int) (4 : Int) a (min a.len (20 : Nat))) (bD (3 : Int) (4 : Int) b (min b.len (20 : Nat)))).snd)
 (twoD (rf false) (bD (3 : Int) (4 : Int) a (min a.len (20 : Nat)))
 (bD (3 : Int) (4 : Int) b (min b.len (20 : Nat))))) =
 false ∧
 True →
 (bD (3 : Int) (4 : Int) a (min a.len (20 : Nat))).len ≤ (8796093022208 : Nat)) ∧
 ((!sameE
 ((twoL jnI
 ((bL (3 : Int) (4 : Int) a (min a.len (20 : Nat))).fst, (bL (3 : Int) (4 : Int) a (min a.len (20 : Nat))).snd)
 ((bL (3 : Int) (4 : Int) b (min b.len (20 : Nat))).fst, (bL (3 : Int) (4 : Int) b (min b.len (20 : Nat))).snd)
 (bD (3 : Int) (4 : Int) a (min a.len (20 : Nat))) (bD (3 : Int) (4 : Int) b (min b.len (20 : Nat)))).fst,
 (twoL jnI
 ((bL (3 : Int) (4 : Int) a (min a.len (20 : Nat))).fst, (bL (3 : Int) (4 : Int) a (min a.len (20 : Nat))).snd)
 ((bL (3 : Int) (4 : Int) b (min b.len (20 : Nat))).fst, (bL (3 : Int) (4 : Int) b (min b.len (20 : Nat))).snd)
 (bD (3 : Int) (4 : Int) a (min a.len (20 : Nat))) (bD (3 : Int) (4 : Int) b (min b.len (20 : Nat)))).snd)
 (prD
 (twoD jnI (bD (3 : Int) (4 : Int) a (min a.len (20 : Nat))) (bD (3 : Int) (4 : Int) b (min b.len (20 : Nat)))).len
 (pr
 (twoD jnI (bD (3 : Int) (4 : Int) a (min a.len (20 : Nat))) (bD (3 : Int) (4 : Int) b (min b.len (20 : Nat))))))
 ((twoL (rf false)
 ((bL (3 : Int) (4 : Int) a (min a.len (20 : Nat))).fst, (bL (3 : Int) (4 : Int) a (min a.len (20 : Nat))).snd)
 ((bL (3 : Int) (4 : Int) b (min b.len (20 : Nat))).fst, (bL (3 : Int) (4 : Int) b (min b.len (20 : Nat))).snd)
 (bD (3 : Int) (4 : Int) a (min a.len (20 : Nat))) (bD (3 : Int) (4 : Int) b (min b.len (20 : Nat)))).fst,
 (twoL (rf false)
 ((bL (3 : Int) (4 : Int) a (min a.len (20 : Nat))).fst, (bL (3 : Int) (4 : Int) a (min a.len (20 : Nat))).snd)
 ((bL (3 : Int) (4 : Int) b (min b.len (20 : Nat))).fst, (bL (3 : Int) (4 : Int) b (min b.len (20 : Nat))).snd)
 (bD (3 : Int) (4 : Int) a (min a.len (20 : Nat))) (bD (3 : Int) (4 : Int) b (min b.len (20 : Nat)))).snd)
 (twoD (rf false) (bD (3 : Int) (4 : Int) a (min a.len (20 : Nat)))
 (bD (3 : Int) (4 : Int) b (min b.len (20 : Nat))))) =
 false ∧
 True →
 (prD (twoD wdI (bD (3 : Int) (4 : Int) a (min a.len (20 : Nat))) (bD (3 : Int) (4 : Int) b (min b.len (20 : Nat)))).len
 (pr
 (twoD wdI (bD (3 : Int) (4 : Int) a (min a.len (20 : Nat)))
 (bD (3 : Int) (4 : Int) b (min b.len (20 : Nat)))))).len ≤
 (8796093022208 : Nat)) ∧
 ((!sameE
 ((twoL jnI
 ((bL (3 : Int) (4 : Int) a (min a.len (20 : Nat))).fst,
 (bL (3 : Int) (4 : Int) a (min a.len (20 : Nat))).snd)
 ((bL (3 : Int) (4 : Int) b (min b.len (20 : Nat))).fst,
 (bL (3 : Int) (4 : Int) b (min b.len (20 : Nat))).snd)
 (bD (3 : Int) (4 : Int) a (min a.len (20 : Nat))) (bD (3 : Int) (4 : Int) b (min b.len (20 : Nat)))).fst,
 (twoL jnI
 ((bL (3 : Int) (4 : Int) a (min a.len (20 : Nat))).fst,
 (bL (3 : Int) (4 : Int) a (min a.len (20 : Nat))).snd)
 ((bL (3 : Int) (4 : Int) b (min b.len (20 : Nat))).fst,
 (bL (3 : Int) (4 : Int) b (min b.len (20 : Nat))).snd)
 (bD (3 : Int) (4 : Int) a (min a.len (20 : Nat))) (bD (3 : Int) (4 : Int) b (min b.len (20 : Nat)))).snd)
 (prD
 (twoD jnI (bD (3 : Int) (4 : Int) a (min a.len (20 : Nat)))
 (bD (3 : Int) (4 : Int) b (min b.len (20 : Nat)))).len
 (pr
 (twoD jnI (bD (3 : Int) (4 : Int) a (min a.len (20 : Nat)))
 (bD (3 : Int) (4 : Int) b (min b.len (20 : Nat))))))
 ((twoL (rf false)
 ((bL (3 : Int) (4 : Int) a (min a.len (20 : Nat))).fst,
 (bL (3 : Int) (4 : Int) a (min a.len (20 : Nat))).snd)
 ((bL (3 : Int) (4 : Int) b (min b.len (20 : Nat))).fst,
 (bL (3 : Int) (4 : Int) b (min b.len (20 : Nat))).snd)
 (bD (3 : Int) (4 : Int) a (min a.len (20 : Nat))) (bD (3 : Int) (4 : Int) b (min b.len (20 : Nat)))).fst,
 (twoL (rf false)
 ((bL (3 : Int) (4 : Int) a (min a.len (20 : Nat))).fst,
 (bL (3 : Int) (4 : Int) a (min a.len (20 : Nat))).snd)
 ((bL (3 : Int) (4 : Int) b (min b.len (20 : Nat))).fst,
 (bL (3 : Int) (4 : Int) b (min b.len (20 : Nat))).snd)
 (bD (3 : Int) (4 : Int) a (min a.len (20 : Nat))) (bD (3 : Int) (4 : Int) b (min b.len (20 : Nat)))).snd)
 (twoD (rf false) (bD (3 : Int) (4 : Int) a (min a.len (20 : Nat)))
 (bD (3 : Int) (4 : Int) b (min b.len (20 : Nat)))) ||
 !sameE
 ((twoL wdI
 ((bL (3 : Int) (4 : Int) a (min a.len (20 : Nat))).fst,
 (bL (3 : Int) (4 : Int) a (min a.len (20 : Nat))).snd)
 ((bL (3 : Int) (4 : Int) b (min b.len (20 : Nat))).fst,
 (bL (3 : Int) (4 : Int) b (min b.len (20 : Nat))).snd)
 (bD (3 : Int) (4 : Int) a (min a.len (20 : Nat))) (bD (3 : Int) (4 : Int) b (min b.len (20 : Nat)))).fst,
 (twoL wdI
 ((bL (3 : Int) (4 : Int) a (min a.len (20 : Nat))).fst,
 (bL (3 : Int) (4 : Int) a (min a.len (20 : Nat))).snd)
 ((bL (3 : Int) (4 : Int) b (min b.len (20 : Nat))).fst,
 (bL (3 : Int) (4 : Int) b (min b.len (20 : Nat))).snd)
 (bD (3 : Int) (4 : Int) a (min a.len (20 : Nat))) (bD (3 : Int) (4 : Int) b (min b.len (20 : Nat)))).snd)
 (prD
 (twoD wdI (bD (3 : Int) (4 : Int) a (min a.len (20 : Nat)))
 (bD (3 : Int) (4 : Int) b (min b.len (20 : Nat)))).len
 (pr
 (twoD wdI (bD (3 : Int) (4 : Int) a (min a.len (20 : Nat)))
 (bD (3 : Int) (4 : Int) b (min b.len (20 : Nat))))))
 ((twoL (rf true)
 ((bL (3 : Int) (4 : Int) a (min a.len (20 : Nat))).fst,
 (bL (3 : Int) (4 : Int) a (min a.len (20 : Nat))).snd)
 ((bL (3 : Int) (4 : Int) b (min b.len (20 : Nat))).fst,
 (bL (3 : Int) (4 : Int) b (min b.len (20 : Nat))).snd)
 (bD (3 : Int) (4 : Int) a (min a.len (20 : Nat))) (bD (3 : Int) (4 : Int) b (min b.len (20 : Nat)))).fst,
 (twoL (rf true)
 ((bL (3 : Int) (4 : Int) a (min a.len (20 : Nat))).fst,
 (bL (3 : Int) (4 : Int) a (min a.len (20 : Nat))).snd)
 ((bL (3 : Int) (4 : Int) b (min b.len (20 : Nat))).fst,
 (bL (3 : Int) (4 : Int) b (min b.len (20 : Nat))).snd)
 (bD (3 : Int) (4 : Int) a (min a.len (20 : Nat))) (bD (3 : Int) (4 : Int) b (min b.len (20 : Nat)))).snd)
 (twoD (rf true) (bD (3 : Int) (4 : Int) a (min a.len (20 : Nat)))
 (bD (3 : Int) (4 : Int) b (min b.len (20 : Nat))))) =
 false ∧
 True →
 nat_lit 0 + i ≤ (mgD q i).len) ∧
 ((!sameE
 ((twoL jnI
 ((bL (3 : Int) (4 : Int) a (min a.len (20 : Nat))).fst,
 (bL (3 : Int) (4 : Int) a (min a.len (20 : Nat))).snd)
 ((bL (3 : Int) (4 : Int) b (min b.len (20 : Nat))).fst,
 (bL (3 : Int) (4 : Int) b (min b.len (20 : Nat))).snd)
 (bD (3 : Int) (4 : Int) a (min a.len (20 : Nat)))
 (bD (3 : Int) (4 : Int) b (min b.len (20 : Nat)))).fst,
 (twoL jnI
 ((bL (3 : Int) (4 : Int) a (min a.len (20 : Nat))).fst,
 (bL (3 : Int) (4 : Int) a (min a.len (20 : Nat))).snd)
 ((bL (3 : Int) (4 : Int) b (min b.len (20 : Nat))).fst,
 (bL (3 : Int) (4 : Int) b (min b.len (20 : Nat))).snd)
 (bD (3 : Int) (4 : Int) a (min a.len (20 : Nat)))
 (bD (3 : Int) (4 : Int) b (min b.len (20 : Nat)))).snd)
 (prD
 (twoD jnI (bD (3 : Int) (4 : Int) a (min a.len (20 : Nat)))
 (bD (3 : Int) (4 : Int) b (min b.len (20 : Nat)))).len
 (pr
 (twoD jnI (bD (3 : Int) (4 : Int) a (min a.len (20 : Nat)))
 (bD (3 : Int) (4 : Int) b (min b.len (20 : Nat))))))
 ((twoL (rf false)
 ((bL (3 : Int) (4 : Int) a (min a.len (20 : Nat))).fst,
 (bL (3 : Int) (4 : Int) a (min a.len (20 : Nat))).snd)
 ((bL (3 : Int) (4 : Int) b (min b.len (20 : Nat))).fst,
 (bL (3 : Int) (4 : Int) b (min b.len (20 : Nat))).snd)
 (bD (3 : Int) (4 : Int) a (min a.len (20 : Nat)))
 (bD (3 : Int) (4 : Int) b (min b.len (20 : Nat)))).fst,
 (twoL (rf false)
 ((bL (3 : Int) (4 : Int) a (min a.len (20 : Nat))).fst,
 (bL (3 : Int) (4 : Int) a (min a.len (20 : Nat))).snd)
 ((bL (3 : Int) (4 : Int) b (min b.len (20 : Nat))).fst,
 (bL (3 : Int) (4 : Int) b (min b.len (20 : Nat))).snd)
 (bD (3 : Int) (4 : Int) a (min a.len (20 : Nat)))
 (bD (3 : Int) (4 : Int) b (min b.len (20 : Nat)))).snd)
 (twoD (rf false) (bD (3 : Int) (4 : Int) a (min a.len (20 : Nat)))
 (bD (3 : Int) (4 : Int) b (min b.len (20 : Nat)))) ||
 !sameE
 ((twoL wdI
 ((bL (3 : Int) (4 : Int) a (min a.len (20 : Nat))).fst,
 (bL (3 : Int) (4 : Int) a (min a.len (20 : Nat))).snd)
 ((bL (3 : Int) (4 : Int) b (min b.len (20 : Nat))).fst,
 (bL (3 : Int) (4 : Int) b (min b.len (20 : Nat))).snd)
 (bD (3 : Int) (4 : Int) a (min a.len (20 : Nat)))
 (bD (3 : Int) (4 : Int) b (min b.len (20 : Nat)))).fst,
 (twoL wdI
 ((bL (3 : Int) (4 : Int) a (min a.len (20 : Nat))).fst,
 (bL (3 : Int) (4 : Int) a (min a.len (20 : Nat))).snd)
 ((bL (3 : Int) (4 : Int) b (min b.len (20 : Nat))).fst,
 (bL (3 : Int) (4 : Int) b (min b.len (20 : Nat))).snd)
 (bD (3 : Int) (4 : Int) a (min a.len (20 : Nat)))
 (bD (3 : Int) (4 : Int) b (min b.len (20 : Nat)))).snd)
 (prD
 (twoD wdI (bD (3 : Int) (4 : Int) a (min a.len (20 : Nat)))
 (bD (3 : Int) (4 : Int) b (min b.len (20 : Nat)))).len
 (pr
 (twoD wdI (bD (3 : Int) (4 : Int) a (min a.len (20 : Nat)))
 (bD (3 : Int) (4 : Int) b (min b.len (20 : Nat))))))
 ((twoL (rf true)
 ((bL (3 : Int) (4 : Int) a (min a.len (20 : Nat))).fst,
 (bL (3 : Int) (4 : Int) a (min a.len (20 : Nat))).snd)
 ((bL (3 : Int) (4 : Int) b (min b.len (20 : Nat))).fst,
 (bL (3 : Int) (4 : Int) b (min b.len (20 : Nat))).snd)
 (bD (3 : Int) (4 : Int) a (min a.len (20 : Nat)))
 (bD (3 : Int) (4 : Int) b (min b.len (20 : Nat)))).fst,
 (twoL (rf true)
 ((bL (3 : Int) (4 : Int) a (min a.len (20 : Nat))).fst,
 (bL (3 : Int) (4 : Int) a (min a.len (20 : Nat))).snd)
 ((bL (3 : Int) (4 : Int) b (min b.len (20 : Nat))).fst,
 (bL (3 : Int) (4 : Int) b (min b.len (20 : Nat))).snd)
 (bD (3 : Int) (4 : Int) a (min a.len (20 : Nat)))
 (bD (3 : Int) (4 : Int) b (min b.len (20 : Nat)))).snd)
 (twoD (rf true) (bD (3 : Int) (4 : Int) a (min a.len (20 : Nat)))
 (bD (3 : Int) (4 : Int) b (min b.len (20 : Nat))))) =
 false ∧
 True →
 ((mgD q i).sub (nat_lit 0) (nat_lit 0 + i)).len ≤ (8796093022208 : Nat)) ∧
 ((!sameE
 ((twoL jnI
 ((bL (3 : Int) (4 : Int) a (min a.len (20 : Nat))).fst,
 (bL (3 : Int) (4 : Int) a (min a.len (20 : Nat))).snd)
 ((bL (3 : Int) (4 : Int) b (min b.len (20 : Nat))).fst,
 (bL (3 : Int) (4 : Int) b (min b.len (20 : Nat))).snd)
 (bD (3 : Int) (4 : Int) a (min a.len (20 : Nat)))
 (bD (3 : Int) (4 : Int) b (min b.len (20 : Nat)))).fst,
 (twoL jnI
 ((bL (3 : Int) (4 : Int) a (min a.len (20 : Nat))).fst,
 (bL (3 : Int) (4 : Int) a (min a.len (20 : Nat))).snd)
 ((bL (3 : Int) (4 : Int) b (min b.len (20 : Nat))).fst,
 (bL (3 : Int) (4 : Int) b (min b.len (20 : Nat))).snd)
 (bD (3 : Int) (4 : Int) a (min a.len (20 : Nat)))
 (bD (3 : Int) (4 : Int) b (min b.len (20 : Nat)))).snd)
 (prD
 (twoD jnI (bD (3 : Int) (4 : Int) a (min a.len (20 : Nat)))
 (bD (3 : Int) (4 : Int) b (min b.len (20 : Nat)))).len
 (pr
 (twoD jnI (bD (3 : Int) (4 : Int) a (min a.len (20 : Nat)))
 (bD (3 : Int) (4 : Int) b (min b.len (20 : Nat))))))
 ((twoL (rf false)
 ((bL (3 : Int) (4 : Int) a (min a.len (20 : Nat))).fst,
 (bL (3 : Int) (4 : Int) a (min a.len (20 : Nat))).snd)
 ((bL (3 : Int) (4 : Int) b (min b.len (20 : Nat))).fst,
 (bL (3 : Int) (4 : Int) b (min b.len (20 : Nat))).snd)
 (bD (3 : Int) (4 : Int) a (min a.len (20 : Nat)))
 (bD (3 : Int) (4 : Int) b (min b.len (20 : Nat)))).fst,
 (twoL (rf false)
 ((bL (3 : Int) (4 : Int) a (min a.len (20 : Nat))).fst,
 (bL (3 : Int) (4 : Int) a (min a.len (20 : Nat))).snd)
 ((bL (3 : Int) (4 : Int) b (min b.len (20 : Nat))).fst,
 (bL (3 : Int) (4 : Int) b (min b.len (20 : Nat))).snd)
 (bD (3 : Int) (4 : Int) a (min a.len (20 : Nat)))
 (bD (3 : Int) (4 : Int) b (min b.len (20 : Nat)))).snd)
 (twoD (rf false) (bD (3 : Int) (4 : Int) a (min a.len (20 : Nat)))
 (bD (3 : Int) (4 : Int) b (min b.len (20 : Nat)))) ||
 !sameE
 ((twoL wdI
 ((bL (3 : Int) (4 : Int) a (min a.len (20 : Nat))).fst,
 (bL (3 : Int) (4 : Int) a (min a.len (20 : Nat))).snd)
 ((bL (3 : Int) (4 : Int) b (min b.len (20 : Nat))).fst,
 (bL (3 : Int) (4 : Int) b (min b.len (20 : Nat))).snd)
 (bD (3 : Int) (4 : Int) a (min a.len (20 : Nat)))
 (bD (3 : Int) (4 : Int) b (min b.len (20 : Nat)))).fst,
 (twoL wdI
 ((bL (3 : Int) (4 : Int) a (min a.len (20 : Nat))).fst,
 (bL (3 : Int) (4 : Int) a (min a.len (20 : Nat))).snd)
 ((bL (3 : Int) (4 : Int) b (min b.len (20 : Nat))).fst,
 (bL (3 : Int) (4 : Int) b (min b.len (20 : Nat))).snd)
 (bD (3 : Int) (4 : Int) a (min a.len (20 : Nat)))
 (bD (3 : Int) (4 : Int) b (min b.len (20 : Nat)))).snd)
 (prD
 (twoD wdI (bD (3 : Int) (4 : Int) a (min a.len (20 : Nat)))
 (bD (3 : Int) (4 : Int) b (min b.len (20 : Nat)))).len
 (pr
 (twoD wdI (bD (3 : Int) (4 : Int) a (min a.len (20 : Nat)))
 (bD (3 : Int) (4 : Int) b (min b.len (20 : Nat))))))
 ((twoL (rf true)
 ((bL (3 : Int) (4 : Int) a (min a.len (20 : Nat))).fst,
 (bL (3 : Int) (4 : Int) a (min a.len (20 : Nat))).snd)
 ((bL (3 : Int) (4 : Int) b (min b.len (20 : Nat))).fst,
 (bL (3 : Int) (4 : Int) b (min b.len (20 : Nat))).snd)
 (bD (3 : Int) (4 : Int) a (min a.len (20 : Nat)))
 (bD (3 : Int) (4 : Int) b (min b.len (20 : Nat)))).fst,
 (twoL (rf true)
 ((bL (3 : Int) (4 : Int) a (min a.len (20 : Nat))).fst,
 (bL (3 : Int) (4 : Int) a (min a.len (20 : Nat))).snd)
 ((bL (3 : Int) (4 : Int) b (min b.len (20 : Nat))).fst,
 (bL (3 : Int) (4 : Int) b (min b.len (20 : Nat))).snd)
 (bD (3 : Int) (4 : Int) a (min a.len (20 : Nat)))
 (bD (3 : Int) (4 : Int) b (min b.len (20 : Nat)))).snd)
 (twoD (rf true) (bD (3 : Int) (4 : Int) a (min a.len (20 : Nat)))
 (bD (3 : Int) (4 : Int) b (min b.len (20 : Nat))))) =
 false ∧
 True →
 (bD (3 : Int) (4 : Int) a (min a.len (20 : Nat))).len ≤ (8796093022208 : Nat)) ∧
 ((!sameE
 ((twoL jnI
 ((bL (3 : Int) (4 : Int) a (min a.len (20 : Nat))).fst,
 (bL (3 : Int) (4 : Int) a (min a.len (20 : Nat))).snd)
 ((bL (3 : Int) (4 : Int) b (min b.len (20 : Nat))).fst,
 (bL (3 : Int) (4 : Int) b (min b.len (20 : Nat))).snd)
 (bD (3 : Int) (4 : Int) a (min a.len (20 : Nat)))
 (bD (3 : Int) (4 : Int) b (min b.len (20 : Nat)))).fst,
 (twoL jnI
 ((bL (3 : Int) (4 : Int) a (min a.len (20 : Nat))).fst,
 (bL (3 : Int) (4 : Int) a (min a.len (20 : Nat))).snd)
 ((bL (3 : Int) (4 : Int) b (min b.len (20 : Nat))).fst,
 (bL (3 : Int) (4 : Int) b (min b.len (20 : Nat))).snd)
 (bD (3 : Int) (4 : Int) a (min a.len (20 : Nat)))
 (bD (3 : Int) (4 : Int) b (min b.len (20 : Nat)))).snd)
 (prD
 (twoD jnI (bD (3 : Int) (4 : Int) a (min a.len (20 : Nat)))
 (bD (3 : Int) (4 : Int) b (min b.len (20 : Nat)))).len
 (pr
 (twoD jnI (bD (3 : Int) (4 : Int) a (min a.len (20 : Nat)))
 (bD (3 : Int) (4 : Int) b (min b.len (20 : Nat))))))
 ((twoL (rf false)
 ((bL (3 : Int) (4 : Int) a (min a.len (20 : Nat))).fst,
 (bL (3 : Int) (4 : Int) a (min a.len (20 : Nat))).snd)
 ((bL (3 : Int) (4 : Int) b (min b.len (20 : Nat))).fst,
 (bL (3 : Int) (4 : Int) b (min b.len (20 : Nat))).snd)
 (bD (3 : Int) (4 : Int) a (min a.len (20 : Nat)))
 (bD (3 : Int) (4 : Int) b (min b.len (20 : Nat)))).fst,
 (twoL (rf false)
 ((bL (3 : Int) (4 : Int) a (min a.len (20 : Nat))).fst,
 (bL (3 : Int) (4 : Int) a (min a.len (20 : Nat))).snd)
 ((bL (3 : Int) (4 : Int) b (min b.len (20 : Nat))).fst,
 (bL (3 : Int) (4 : Int) b (min b.len (20 : Nat))).snd)
 (bD (3 : Int) (4 : Int) a (min a.len (20 : Nat)))
 (bD (3 : Int) (4 : Int) b (min b.len (20 : Nat)))).snd)
 (twoD (rf false) (bD (3 : Int) (4 : Int) a (min a.len (20 : Nat)))
 (bD (3 : Int) (4 : Int) b (min b.len (20 : Nat)))) ||
 !sameE
 ((twoL wdI
 ((bL (3 : Int) (4 : Int) a (min a.len (20 : Nat))).fst,
 (bL (3 : Int) (4 : Int) a (min a.len (20 : Nat))).snd)
 ((bL (3 : Int) (4 : Int) b (min b.len (20 : Nat))).fst,
 (bL (3 : Int) (4 : Int) b (min b.len (20 : Nat))).snd)
 (bD (3 : Int) (4 : Int) a (min a.len (20 : Nat)))
 (bD (3 : Int) (4 : Int) b (min b.len (20 : Nat)))).fst,
 (twoL wdI
 ((bL (3 : Int) (4 : Int) a (min a.len (20 : Nat))).fst,
 (bL (3 : Int) (4 : Int) a (min a.len (20 : Nat))).snd)
 ((bL (3 : Int) (4 : Int) b (min b.len (20 : Nat))).fst,
 (bL (3 : Int) (4 : Int) b (min b.len (20 : Nat))).snd)
 (bD (3 : Int) (4 : Int) a (min a.len (20 : Nat)))
 (bD (3 : Int) (4 : Int) b (min b.len (20 : Nat)))).snd)
 (prD
 (twoD wdI (bD (3 : Int) (4 : Int) a (min a.len (20 : Nat)))
 (bD (3 : Int) (4 : Int) b (min b.len (20 : Nat)))).len
 (pr
 (twoD wdI (bD (3 : Int) (4 : Int) a (min a.len (20 : Nat)))
 (bD (3 : Int) (4 : Int) b (min b.len (20 : Nat))))))
 ((twoL (rf true)
 ((bL (3 : Int) (4 : Int) a (min a.len (20 : Nat))).fst,
 (bL (3 : Int) (4 : Int) a (min a.len (20 : Nat))).snd)
 ((bL (3 : Int) (4 : Int) b (min b.len (20 : Nat))).fst,
 (bL (3 : Int) (4 : Int) b (min b.len (20 : Nat))).snd)
 (bD (3 : Int) (4 : Int) a (min a.len (20 : Nat)))
 (bD (3 : Int) (4 : Int) b (min b.len (20 : Nat)))).fst,
 (twoL (rf true)
 ((bL (3 : Int) (4 : Int) a (min a.len (20 : Nat))).fst,
 (bL (3 : Int) (4 : Int) a (min a.len (20 : Nat))).snd)
 ((bL (3 : Int) (4 : Int) b (min b.len (20 : Nat))).fst,
 (bL (3 : Int) (4 : Int) b (min b.len (20 : Nat))).snd)
 (bD (3 : Int) (4 : Int) a (min a.len (20 : Nat)))
 (bD (3 : Int) (4 : Int) b (min b.len (20 : Nat)))).snd)
 (twoD (rf true) (bD (3 : Int) (4 : Int) a (min a.len (20 : Nat)))
 (bD (3 : Int) (4 : Int) b (min b.len (20 : Nat))))) =
 false ∧
 True →
 (0 : Int) ≤ (↑i : Int) ∧ (↑i : Int) ≤ (↑q.len : Int)) ∧
 ((!sameE
 ((twoL jnI
 ((bL (3 : Int) (4 : Int) a (min a.len (20 : Nat))).fst,
 (bL (3 : Int) (4 : Int) a (min a.len (20 : Nat))).snd)
 ((bL (3 : Int) (4 : Int) b (min b.len (20 : Nat))).fst,
 (bL (3 : Int) (4 : Int) b (min b.len (20 : Nat))).snd)
 (bD (3 : Int) (4 : Int) a (min a.len (20 : Nat)))
 (bD (3 : Int) (4 : Int) b (min b.len (20 : Nat)))).fst,
 (twoL jnI
 ((bL (3 : Int) (4 : Int) a (min a.len (20 : Nat))).fst,
 (bL (3 : Int) (4 : Int) a (min a.len (20 : Nat))).snd)
 ((bL (3 : Int) (4 : Int) b (min b.len (20 : Nat))).fst,
 (bL (3 : Int) (4 : Int) b (min b.len (20 : Nat))).snd)
 (bD (3 : Int) (4 : Int) a (min a.len (20 : Nat)))
 (bD (3 : Int) (4 : Int) b (min b.len (20 : Nat)))).snd)
 (prD
 (twoD jnI (bD (3 : Int) (4 : Int) a (min a.len (20 : Nat)))
 (bD (3 : Int) (4 : Int) b (min b.len (20 : Nat)))).len
 (pr
 (twoD jnI (bD (3 : Int) (4 : Int) a (min a.len (20 : Nat)))
 (bD (3 : Int) (4 : Int) b (min b.len (20 : Nat))))))
 ((twoL (rf false)
 ((bL (3 : Int) (4 : Int) a (min a.len (20 : Nat))).fst,
 (bL (3 : Int) (4 : Int) a (min a.len (20 : Nat))).snd)
 ((bL (3 : Int) (4 : Int) b (min b.len (20 : Nat))).fst,
 (bL (3 : Int) (4 : Int) b (min b.len (20 : Nat))).snd)
 (bD (3 : Int) (4 : Int) a (min a.len (20 : Nat)))
 (bD (3 : Int) (4 : Int) b (min b.len (20 : Nat)))).fst,
 (twoL (rf false)
 ((bL (3 : Int) (4 : Int) a (min a.len (20 : Nat))).fst,
 (bL (3 : Int) (4 : Int) a (min a.len (20 : Nat))).snd)
 ((bL (3 : Int) (4 : Int) b (min b.len (20 : Nat))).fst,
 (bL (3 : Int) (4 : Int) b (min b.len (20 : Nat))).snd)
 (bD (3 : Int) (4 : Int) a (min a.len (20 : Nat)))
 (bD (3 : Int) (4 : Int) b (min b.len (20 : Nat)))).snd)
 (twoD (rf false) (bD (3 : Int) (4 : Int) a (min a.len (20 : Nat)))
 (bD (3 : Int) (4 : Int) b (min b.len (20 : Nat)))) ||
 !sameE
 ((twoL wdI
 ((bL (3 : Int) (4 : Int) a (min a.len (20 : Nat))).fst,
 (bL (3 : Int) (4 : Int) a (min a.len (20 : Nat))).snd)
 ((bL (3 : Int) (4 : Int) b (min b.len (20 : Nat))).fst,
 (bL (3 : Int) (4 : Int) b (min b.len (20 : Nat))).snd)
 (bD (3 : Int) (4 : Int) a (min a.len (20 : Nat)))
 (bD (3 : Int) (4 : Int) b (min b.len (20 : Nat)))).fst,
 (twoL wdI
 ((bL (3 : Int) (4 : Int) a (min a.len (20 : Nat))).fst,
 (bL (3 : Int) (4 : Int) a (min a.len (20 : Nat))).snd)
 ((bL (3 : Int) (4 : Int) b (min b.len (20 : Nat))).fst,
 (bL (3 : Int) (4 : Int) b (min b.len (20 : Nat))).snd)
 (bD (3 : Int) (4 : Int) a (min a.len (20 : Nat)))
 (bD (3 : Int) (4 : Int) b (min b.len (20 : Nat)))).snd)
 (prD
 (twoD wdI (bD (3 : Int) (4 : Int) a (min a.len (20 : Nat)))
 (bD (3 : Int) (4 : Int) b (min b.len (20 : Nat)))).len
 (pr
 (twoD wdI (bD (3 : Int) (4 : Int) a (min a.len (20 : Nat)))
 (bD (3 : Int) (4 : Int) b (min b.len (20 : Nat))))))
 ((twoL (rf true)
 ((bL (3 : Int) (4 : Int) a (min a.len (20 : Nat))).fst,
 (bL (3 : Int) (4 : Int) a (min a.len (20 : Nat))).snd)
 ((bL (3 : Int) (4 : Int) b (min b.len (20 : Nat))).fst,
 (bL (3 : Int) (4 : Int) b (min b.len (20 : Nat))).snd)
 (bD (3 : Int) (4 : Int) a (min a.len (20 : Nat)))
 (bD (3 : Int) (4 : Int) b (min b.len (20 : Nat)))).fst,
 (twoL (rf true)
 ((bL (3 : Int) (4 : Int) a (min a.len (20 : Nat))).fst,
 (bL (3 : Int) (4 : Int) a (min a.len (20 : Nat))).snd)
 ((bL (3 : Int) (4 : Int) b (min b.len (20 : Nat))).fst,
 (bL (3 : Int) (4 : Int) b (min b.len (20 : Nat))).snd)
 (bD (3 : Int) (4 : Int) a (min a.len (20 : Nat)))
 (bD (3 : Int) (4 : Int) b (min b.len (20 : Nat)))).snd)
 (twoD (rf true) (bD (3 : Int) (4 : Int) a (min a.len (20 : Nat)))
 (bD (3 : Int) (4 : Int) b (min b.len (20 : Nat))))) =
 false ∧
 True →
 (q.sub (0 : Nat) (↑i : Int).toNat).len ≤ (8796093022208 : Nat)) ∧
 ((!sameE
 ((twoL jnI
 ((bL (3 : Int) (4 : Int) a (min a.len (20 : Nat))).fst,
 (bL (3 : Int) (4 : Int) a (min a.len (20 : Nat))).snd)
 ((bL (3 : Int) (4 : Int) b (min b.len (20 : Nat))).fst,
 (bL (3 : Int) (4 : Int) b (min b.len (20 : Nat))).snd)
 (bD (3 : Int) (4 : Int) a (min a.len (20 : Nat)))
 (bD (3 : Int) (4 : Int) b (min b.len (20 : Nat)))).fst,
 (twoL jnI
 ((bL (3 : Int) (4 : Int) a (min a.len (20 : Nat))).fst,
 (bL (3 : Int) (4 : Int) a (min a.len (20 : Nat))).snd)
 ((bL (3 : Int) (4 : Int) b (min b.len (20 : Nat))).fst,
 (bL (3 : Int) (4 : Int) b (min b.len (20 : Nat))).snd)
 (bD (3 : Int) (4 : Int) a (min a.len (20 : Nat)))
 (bD (3 : Int) (4 : Int) b (min b.len (20 : Nat)))).snd)
 (prD
 (twoD jnI (bD (3 : Int) (4 : Int) a (min a.len (20 : Nat)))
 (bD (3 : Int) (4 : Int) b (min b.len (20 : Nat)))).len
 (pr
 (twoD jnI (bD (3 : Int) (4 : Int) a (min a.len (20 : Nat)))
 (bD (3 : Int) (4 : Int) b (min b.len (20 : Nat))))))
 ((twoL (rf false)
 ((bL (3 : Int) (4 : Int) a (min a.len (20 : Nat))).fst,
 (bL (3 : Int) (4 : Int) a (min a.len (20 : Nat))).snd)
 ((bL (3 : Int) (4 : Int) b (min b.len (20 : Nat))).fst,
 (bL (3 : Int) (4 : Int) b (min b.len (20 : Nat))).snd)
 (bD (3 : Int) (4 : Int) a (min a.len (20 : Nat)))
 (bD (3 : Int) (4 : Int) b (min b.len (20 : Nat)))).fst,
 (twoL (rf false)
 ((bL (3 : Int) (4 : Int) a (min a.len (20 : Nat))).fst,
 (bL (3 : Int) (4 : Int) a (min a.len (20 : Nat))).snd)
 ((bL (3 : Int) (4 : Int) b (min b.len (20 : Nat))).fst,
 (bL (3 : Int) (4 : Int) b (min b.len (20 : Nat))).snd)
 (bD (3 : Int) (4 : Int) a (min a.len (20 : Nat)))
 (bD (3 : Int) (4 : Int) b (min b.len (20 : Nat)))).snd)
 (twoD (rf false) (bD (3 : Int) (4 : Int) a (min a.len (20 : Nat)))
 (bD (3 : Int) (4 : Int) b (min b.len (20 : Nat)))) ||
 !sameE
 ((twoL wdI
 ((bL (3 : Int) (4 : Int) a (min a.len (20 : Nat))).fst,
 (bL (3 : Int) (4 : Int) a (min a.len (20 : Nat))).snd)
 ((bL (3 : Int) (4 : Int) b (min b.len (20 : Nat))).fst,
 (bL (3 : Int) (4 : Int) b (min b.len (20 : Nat))).snd)
 (bD (3 : Int) (4 : Int) a (min a.len (20 : Nat)))
 (bD (3 : Int) (4 : Int) b (min b.len (20 : Nat)))).fst,
 (twoL wdI
 ((bL (3 : Int) (4 : Int) a (min a.len (20 : Nat))).fst,
 (bL (3 : Int) (4 : Int) a (min a.len (20 : Nat))).snd)
 ((bL (3 : Int) (4 : Int) b (min b.len (20 : Nat))).fst,
 (bL (3 : Int) (4 : Int) b (min b.len (20 : Nat))).snd)
 (bD (3 : Int) (4 : Int) a (min a.len (20 : Nat)))
 (bD (3 : Int) (4 : Int) b (min b.len (20 : Nat)))).snd)
 (prD
 (twoD wdI (bD (3 : Int) (4 : Int) a (min a.len (20 : Nat)))
 (bD (3 : Int) (4 : Int) b (min b.len (20 : Nat)))).len
 (pr
 (twoD wdI (bD (3 : Int) (4 : Int) a (min a.len (20 : Nat)))
 (bD (3 : Int) (4 : Int) b (min b.len (20 : Nat))))))
 ((twoL (rf true)
 ((bL (3 : Int) (4 : Int) a (min a.len (20 : Nat))).fst,
 (bL (3 : Int) (4 : Int) a (min a.len (20 : Nat))).snd)
 ((bL (3 : Int) (4 : Int) b (min b.len (20 : Nat))).fst,
 (bL (3 : Int) (4 : Int) b (min b.len (20 : Nat))).snd)
 (bD (3 : Int) (4 : Int) a (min a.len (20 : Nat)))
 (bD (3 : Int) (4 : Int) b (min b.len (20 : Nat)))).fst,
 (twoL (rf true)
 ((bL (3 : Int) (4 : Int) a (min a.len (20 : Nat))).fst,
 (bL (3 : Int) (4 : Int) a (min a.len (20 : Nat))).snd)
 ((bL (3 : Int) (4 : Int) b (min b.len (20 : Nat))).fst,
 (bL (3 : Int) (4 : Int) b (min b.len (20 : Nat))).snd)
 (bD (3 : Int) (4 : Int) a (min a.len (20 : Nat)))
 (bD (3 : Int) (4 : Int) b (min b.len (20 : Nat)))).snd)
 (twoD (rf true) (bD (3 : Int) (4 : Int) a (min a.len (20 : Nat)))
 (bD (3 : Int) (4 : Int) b (min b.len (20 : Nat))))) =
 false ∧
 True →
 (bD (3 : Int) (4 : Int) a (min a.len (20 : Nat))).len ≤ (8796093022208 : Nat)) ∧
 ((!sameE
 ((twoL jnI
 ((bL (3 : Int) (4 : Int) a (min a.len (20 : Nat))).fst,
 (bL (3 : Int) (4 : Int) a (min a.len (20 : Nat))).snd)
 ((bL (3 : Int) (4 : Int) b (min b.len (20 : Nat))).fst,
 (bL (3 : Int) (4 : Int) b (min b.len (20 : Nat))).snd)
 (bD (3 : Int) (4 : Int) a (min a.len (20 : Nat)))
 (bD (3 : Int) (4 : Int) b (min b.len (20 : Nat)))).fst,
 (twoL jnI
 ((bL (3 : Int) (4 : Int) a (min a.len (20 : Nat))).fst,
 (bL (3 : Int) (4 : Int) a (min a.len (20 : Nat))).snd)
 ((bL (3 : Int) (4 : Int) b (min b.len (20 : Nat))).fst,
 (bL (3 : Int) (4 : Int) b (min b.len (20 : Nat))).snd)
 (bD (3 : Int) (4 : Int) a (min a.len (20 : Nat)))
 (bD (3 : Int) (4 : Int) b (min b.len (20 : Nat)))).snd)
 (prD
 (twoD jnI (bD (3 : Int) (4 : Int) a (min a.len (20 : Nat)))
 (bD (3 : Int) (4 : Int) b (min b.len (20 : Nat)))).len
 (pr
 (twoD jnI (bD (3 : Int) (4 : Int) a (min a.len (20 : Nat)))
 (bD (3 : Int) (4 : Int) b (min b.len (20 : Nat))))))
 ((twoL (rf false)
 ((bL (3 : Int) (4 : Int) a (min a.len (20 : Nat))).fst,
 (bL (3 : Int) (4 : Int) a (min a.len (20 : Nat))).snd)
 ((bL (3 : Int) (4 : Int) b (min b.len (20 : Nat))).fst,
 (bL (3 : Int) (4 : Int) b (min b.len (20 : Nat))).snd)
 (bD (3 : Int) (4 : Int) a (min a.len (20 : Nat)))
 (bD (3 : Int) (4 : Int) b (min b.len (20 : Nat)))).fst,
 (twoL (rf false)
 ((bL (3 : Int) (4 : Int) a (min a.len (20 : Nat))).fst,
 (bL (3 : Int) (4 : Int) a (min a.len (20 : Nat))).snd)
 ((bL (3 : Int) (4 : Int) b (min b.len (20 : Nat))).fst,
 (bL (3 : Int) (4 : Int) b (min b.len (20 : Nat))).snd)
 (bD (3 : Int) (4 : Int) a (min a.len (20 : Nat)))
 (bD (3 : Int) (4 : Int) b (min b.len (20 : Nat)))).snd)
 (twoD (rf false) (bD (3 : Int) (4 : Int) a (min a.len (20 : Nat)))
 (bD (3 : Int) (4 : Int) b (min b.len (20 : Nat)))) ||
 !sameE
 ((twoL wdI
 ((bL (3 : Int) (4 : Int) a (min a.len (20 : Nat))).fst,
 (bL (3 : Int) (4 : Int) a (min a.len (20 : Nat))).snd)
 ((bL (3 : Int) (4 : Int) b (min b.len (20 : Nat))).fst,
 (bL (3 : Int) (4 : Int) b (min b.len (20 : Nat))).snd)
 (bD (3 : Int) (4 : Int) a (min a.len (20 : Nat)))
 (bD (3 : Int) (4 : Int) b (min b.len (20 : Nat)))).fst,
 (twoL wdI
 ((bL (3 : Int) (4 : Int) a (min a.len (20 : Nat))).fst,
 (bL (3 : Int) (4 : Int) a (min a.len (20 : Nat))).snd)
 ((bL (3 : Int) (4 : Int) b (min b.len (20 : Nat))).fst,
 (bL (3 : Int) (4 : Int) b (min b.len (20 : Nat))).snd)
 (bD (3 : Int) (4 : Int) a (min a.len (20 : Nat)))
 (bD (3 : Int) (4 : Int) b (min b.len (20 : Nat)))).snd)
 (prD
 (twoD wdI (bD (3 : Int) (4 : Int) a (min a.len (20 : Nat)))
 (bD (3 : Int) (4 : Int) b (min b.len (20 : Nat)))).len
 (pr
 (twoD wdI (bD (3 : Int) (4 : Int) a (min a.len (20 : Nat)))
 (bD (3 : Int) (4 : Int) b (min b.len (20 : Nat))))))
 ((twoL (rf true)
 ((bL (3 : Int) (4 : Int) a (min a.len (20 : Nat))).fst,
 (bL (3 : Int) (4 : Int) a (min a.len (20 : Nat))).snd)
 ((bL (3 : Int) (4 : Int) b (min b.len (20 : Nat))).fst,
 (bL (3 : Int) (4 : Int) b (min b.len (20 : Nat))).snd)
 (bD (3 : Int) (4 : Int) a (min a.len (20 : Nat)))
 (bD (3 : Int) (4 : Int) b (min b.len (20 : Nat)))).fst,
 (twoL (rf true)
 ((bL (3 : Int) (4 : Int) a (min a.len (20 : Nat))).fst,
 (bL (3 : Int) (4 : Int) a (min a.len (20 : Nat))).snd)
 ((bL (3 : Int) (4 : Int) b (min b.len (20 : Nat))).fst,
 (bL (3 : Int) (4 : Int) b (min b.len (20 : Nat))).snd)
 (bD (3 : Int) (4 : Int) a (min a.len (20 : Nat)))
 (bD (3 : Int) (4 : Int) b (min b.len (20 : Nat)))).snd)
 (twoD (rf true) (bD (3 : Int) (4 : Int) a (min a.len (20 : Nat)))
 (bD (3 : Int) (4 : Int) b (min b.len (20 : Nat)))) ||
 !hasQ (bL (3 : Int) (4 : Int) a (min a.len (20 : Nat))).fst
 (bL (3 : Int) (4 : Int) a (min a.len (20 : Nat))).snd
 (bD (3 : Int) (4 : Int) a (min a.len (20 : Nat))) ((mgD q i).sub (nat_lit 0) (nat_lit 0 + i)) ==
 hasQ (bL (3 : Int) (4 : Int) a (min a.len (20 : Nat))).fst
 (bL (3 : Int) (4 : Int) a (min a.len (20 : Nat))).snd
 (bD (3 : Int) (4 : Int) a (min a.len (20 : Nat))) (q.sub (0 : Nat) (↑i : Int).toNat)) =
 true →
 false = true) ∧
 ((!sameE
 ((twoL jnI
 ((bL (3 : Int) (4 : Int) a (min a.len (20 : Nat))).fst,
 (bL (3 : Int) (4 : Int) a (min a.len (20 : Nat))).snd)
 ((bL (3 : Int) (4 : Int) b (min b.len (20 : Nat))).fst,
 (bL (3 : Int) (4 : Int) b (min b.len (20 : Nat))).snd)
 (bD (3 : Int) (4 : Int) a (min a.len (20 : Nat)))
 (bD (3 : Int) (4 : Int) b (min b.len (20 : Nat)))).fst,
 (twoL jnI
 ((bL (3 : Int) (4 : Int) a (min a.len (20 : Nat))).fst,
 (bL (3 : Int) (4 : Int) a (min a.len (20 : Nat))).snd)
 ((bL (3 : Int) (4 : Int) b (min b.len (20 : Nat))).fst,
 (bL (3 : Int) (4 : Int) b (min b.len (20 : Nat))).snd)
 (bD (3 : Int) (4 : Int) a (min a.len (20 : Nat)))
 (bD (3 : Int) (4 : Int) b (min b.len (20 : Nat)))).snd)
 (prD
 (twoD jnI (bD (3 : Int) (4 : Int) a (min a.len (20 : Nat)))
 (bD (3 : Int) (4 : Int) b (min b.len (20 : Nat)))).len
 (pr
 (twoD jnI (bD (3 : Int) (4 : Int) a (min a.len (20 : Nat)))
 (bD (3 : Int) (4 : Int) b (min b.len (20 : Nat))))))
 ((twoL (rf false)
 ((bL (3 : Int) (4 : Int) a (min a.len (20 : Nat))).fst,
 (bL (3 : Int) (4 : Int) a (min a.len (20 : Nat))).snd)
 ((bL (3 : Int) (4 : Int) b (min b.len (20 : Nat))).fst,
 (bL (3 : Int) (4 : Int) b (min b.len (20 : Nat))).snd)
 (bD (3 : Int) (4 : Int) a (min a.len (20 : Nat)))
 (bD (3 : Int) (4 : Int) b (min b.len (20 : Nat)))).fst,
 (twoL (rf false)
 ((bL (3 : Int) (4 : Int) a (min a.len (20 : Nat))).fst,
 (bL (3 : Int) (4 : Int) a (min a.len (20 : Nat))).snd)
 ((bL (3 : Int) (4 : Int) b (min b.len (20 : Nat))).fst,
 (bL (3 : Int) (4 : Int) b (min b.len (20 : Nat))).snd)
 (bD (3 : Int) (4 : Int) a (min a.len (20 : Nat)))
 (bD (3 : Int) (4 : Int) b (min b.len (20 : Nat)))).snd)
 (twoD (rf false) (bD (3 : Int) (4 : Int) a (min a.len (20 : Nat)))
 (bD (3 : Int) (4 : Int) b (min b.len (20 : Nat)))) ||
 !sameE
 ((twoL wdI
 ((bL (3 : Int) (4 : Int) a (min a.len (20 : Nat))).fst,
 (bL (3 : Int) (4 : Int) a (min a.len (20 : Nat))).snd)
 ((bL (3 : Int) (4 : Int) b (min b.len (20 : Nat))).fst,
 (bL (3 : Int) (4 : Int) b (min b.len (20 : Nat))).snd)
 (bD (3 : Int) (4 : Int) a (min a.len (20 : Nat)))
 (bD (3 : Int) (4 : Int) b (min b.len (20 : Nat)))).fst,
 (twoL wdI
 ((bL (3 : Int) (4 : Int) a (min a.len (20 : Nat))).fst,
 (bL (3 : Int) (4 : Int) a (min a.len (20 : Nat))).snd)
 ((bL (3 : Int) (4 : Int) b (min b.len (20 : Nat))).fst,
 (bL (3 : Int) (4 : Int) b (min b.len (20 : Nat))).snd)
 (bD (3 : Int) (4 : Int) a (min a.len (20 : Nat)))
 (bD (3 : Int) (4 : Int) b (min b.len (20 : Nat)))).snd)
 (prD
 (twoD wdI (bD (3 : Int) (4 : Int) a (min a.len (20 : Nat)))
 (bD (3 : Int) (4 : Int) b (min b.len (20 : Nat)))).len
 (pr
 (twoD wdI (bD (3 : Int) (4 : Int) a (min a.len (20 : Nat)))
 (bD (3 : Int) (4 : Int) b (min b.len (20 : Nat))))))
 ((twoL (rf true)
 ((bL (3 : Int) (4 : Int) a (min a.len (20 : Nat))).fst,
 (bL (3 : Int) (4 : Int) a (min a.len (20 : Nat))).snd)
 ((bL (3 : Int) (4 : Int) b (min b.len (20 : Nat))).fst,
 (bL (3 : Int) (4 : Int) b (min b.len (20 : Nat))).snd)
 (bD (3 : Int) (4 : Int) a (min a.len (20 : Nat)))
 (bD (3 : Int) (4 : Int) b (min b.len (20 : Nat)))).fst,
 (twoL (rf true)
 ((bL (3 : Int) (4 : Int) a (min a.len (20 : Nat))).fst,
 (bL (3 : Int) (4 : Int) a (min a.len (20 : Nat))).snd)
 ((bL (3 : Int) (4 : Int) b (min b.len (20 : Nat))).fst,
 (bL (3 : Int) (4 : Int) b (min b.len (20 : Nat))).snd)
 (bD (3 : Int) (4 : Int) a (min a.len (20 : Nat)))
 (bD (3 : Int) (4 : Int) b (min b.len (20 : Nat)))).snd)
 (twoD (rf true) (bD (3 : Int) (4 : Int) a (min a.len (20 : Nat)))
 (bD (3 : Int) (4 : Int) b (min b.len (20 : Nat)))) ||
 !hasQ (bL (3 : Int) (4 : Int) a (min a.len (20 : Nat))).fst
 (bL (3 : Int) (4 : Int) a (min a.len (20 : Nat))).snd
 (bD (3 : Int) (4 : Int) a (min a.len (20 : Nat))) ((mgD q i).sub (nat_lit 0) (nat_lit 0 + i)) ==
 hasQ (bL (3 : Int) (4 : Int) a (min a.len (20 : Nat))).fst
 (bL (3 : Int) (4 : Int) a (min a.len (20 : Nat))).snd
 (bD (3 : Int) (4 : Int) a (min a.len (20 : Nat))) (q.sub (0 : Nat) (↑i : Int).toNat)) =
 false →
 (∃ (i : Nat),
 i.le (3 : Nat) ∧
 (0 : Int) = (↑i : Int) ∧
 (decide
 ((bL (3 : Int) (4 : Int) a (min a.len (20 : Nat))).fst ≥
 (bL (3 : Int) (4 : Int) b (min b.len (20 : Nat))).fst) &&
 decide
 ((bL (3 : Int) (4 : Int) a (min a.len (20 : Nat))).snd ≤
 (bL (3 : Int) (4 : Int) b (min b.len (20 : Nat))).snd)) =
 inQ (bL (3 : Int) (4 : Int) a (min a.len (20 : Nat)))
 (bD (3 : Int) (4 : Int) a (min a.len (20 : Nat)))
 (bL (3 : Int) (4 : Int) b (min b.len (20 : Nat)))
 (bD (3 : Int) (4 : Int) b (min b.len (20 : Nat))) i ∧
 false = false ∧
 (bL (3 : Int) (4 : Int) a (min a.len (20 : Nat))).fst =
 (bL (3 : Int) (4 : Int) a (min a.len (20 : Nat))).fst ∧
 (bL (3 : Int) (4 : Int) a (min a.len (20 : Nat))).snd =
 (bL (3 : Int) (4 : Int) a (min a.len (20 : Nat))).snd ∧
 (bD (3 : Int) (4 : Int) a (min a.len (20 : Nat))).rows =
 (bD (3 : Int) (4 : Int) a (min a.len (20 : Nat))).rows ∧
 (bL (3 : Int) (4 : Int) a (min a.len (20 : Nat))).fst =
 (bL (3 : Int) (4 : Int) a (min a.len (20 : Nat))).fst ∧
 (bL (3 : Int) (4 : Int) a (min a.len (20 : Nat))).snd =
 (bL (3 : Int) (4 : Int) a (min a.len (20 : Nat))).snd ∧
 (bD (3 : Int) (4 : Int) a (min a.len (20 : Nat))).rows =
 (bD (3 : Int) (4 : Int) a (min a.len (20 : Nat))).rows ∧
 (bL (3 : Int) (4 : Int) b (min b.len (20 : Nat))).fst =
 (bL (3 : Int) (4 : Int) b (min b.len (20 : Nat))).fst ∧
 (bL (3 : Int) (4 : Int) b (min b.len (20 : Nat))).snd =
 (bL (3 : Int) (4 : Int) b (min b.len (20 : Nat))).snd ∧
 (bD (3 : Int) (4 : Int) b (min b.len (20 : Nat))).rows =
 (bD (3 : Int) (4 : Int) b (min b.len (20 : Nat))).rows ∧
 (bL (3 : Int) (4 : Int) b (min b.len (20 : Nat))).fst =
 (bL (3 : Int) (4 : Int) b (min b.len (20 : Nat))).fst ∧
 (bL (3 : Int) (4 : Int) b (min b.len (20 : Nat))).snd =
 (bL (3 : Int) (4 : Int) b (min b.len (20 : Nat))).snd ∧
 (bD (3 : Int) (4 : Int) b (min b.len (20 : Nat))).rows =
 (bD (3 : Int) (4 : Int) b (min b.len (20 : Nat))).rows ∧
 (twoL jnI
 ((bL (3 : Int) (4 : Int) a (min a.len (20 : Nat))).fst,
 (bL (3 : Int) (4 : Int) a (min a.len (20 : Nat))).snd)
 ((bL (3 : Int) (4 : Int) b (min b.len (20 : Nat))).fst,
 (bL (3 : Int) (4 : Int) b (min b.len (20 : Nat))).snd)
 (bD (3 : Int) (4 : Int) a (min a.len (20 : Nat)))
 (bD (3 : Int) (4 : Int) b (min b.len (20 : Nat)))).fst =
 (twoL jnI
 ((bL (3 : Int) (4 : Int) a (min a.len (20 : Nat))).fst,
 (bL (3 : Int) (4 : Int) a (min a.len (20 : Nat))).snd)
 ((bL (3 : Int) (4 : Int) b (min b.len (20 : Nat))).fst,
 (bL (3 : Int) (4 : Int) b (min b.len (20 : Nat))).snd)
 (bD (3 : Int) (4 : Int) a (min a.len (20 : Nat)))
 (bD (3 : Int) (4 : Int) b (min b.len (20 : Nat)))).fst ∧
 (twoL jnI
 ((bL (3 : Int) (4 : Int) a (min a.len (20 : Nat))).fst,
 (bL (3 : Int) (4 : Int) a (min a.len (20 : Nat))).snd)
 ((bL (3 : Int) (4 : Int) b (min b.len (20 : Nat))).fst,
 (bL (3 : Int) (4 : Int) b (min b.len (20 : Nat))).snd)
 (bD (3 : Int) (4 : Int) a (min a.len (20 : Nat)))
 (bD (3 : Int) (4 : Int) b (min b.len (20 : Nat)))).snd =
 (twoL jnI
 ((bL (3 : Int) (4 : Int) a (min a.len (20 : Nat))).fst,
 (bL (3 : Int) (4 : Int) a (min a.len (20 : Nat))).snd)
 ((bL (3 : Int) (4 : Int) b (min b.len (20 : Nat))).fst,
 (bL (3 : Int) (4 : Int) b (min b.len (20 : Nat))).snd)
 (bD (3 : Int) (4 : Int) a (min a.len (20 : Nat)))
 (bD (3 : Int) (4 : Int) b (min b.len (20 : Nat)))).snd ∧
 (twoD jnI (bD (3 : Int) (4 : Int) a (min a.len (20 : Nat)))
 (bD (3 : Int) (4 : Int) b (min b.len (20 : Nat)))).rows =
 (twoD jnI (bD (3 : Int) (4 : Int) a (min a.len (20 : Nat)))
 (bD (3 : Int) (4 : Int) b (min b.len (20 : Nat)))).rows ∧
 (twoL wdI
 ((bL (3 : Int) (4 : Int) a (min a.len (20 : Nat))).fst,
 (bL (3 : Int) (4 : Int) a (min a.len (20 : Nat))).snd)
 ((bL (3 : Int) (4 : Int) b (min b.len (20 : Nat))).fst,
 (bL (3 : Int) (4 : Int) b (min b.len (20 : Nat))).snd)
 (bD (3 : Int) (4 : Int) a (min a.len (20 : Nat)))
 (bD (3 : Int) (4 : Int) b (min b.len (20 : Nat)))).fst =
 (twoL wdI
 ((bL (3 : Int) (4 : Int) a (min a.len (20 : Nat))).fst,
 (bL (3 : Int) (4 : Int) a (min a.len (20 : Nat))).snd)
 ((bL (3 : Int) (4 : Int) b (min b.len (20 : Nat))).fst,
 (bL (3 : Int) (4 : Int) b (min b.len (20 : Nat))).snd)
 (bD (3 : Int) (4 : Int) a (min a.len (20 : Nat)))
 (bD (3 : Int) (4 : Int) b (min b.len (20 : Nat)))).fst ∧
 (twoL wdI
 ((bL (3 : Int) (4 : Int) a (min a.len (20 : Nat))).fst,
 (bL (3 : Int) (4 : Int) a (min a.len (20 : Nat))).snd)
 ((bL (3 : Int) (4 : Int) b (min b.len (20 : Nat))).fst,
 (bL (3 : Int) (4 : Int) b (min b.len (20 : Nat))).snd)
 (bD (3 : Int) (4 : Int) a (min a.len (20 : Nat)))
 (bD (3 : Int) (4 : Int) b (min b.len (20 : Nat)))).snd =
 (twoL wdI
 ((bL (3 : Int) (4 : Int) a (min a.len (20 : Nat))).fst,
 (bL (3 : Int) (4 : Int) a (min a.len (20 : Nat))).snd)
 ((bL (3 : Int) (4 : Int) b (min b.len (20 : Nat))).fst,
 (bL (3 : Int) (4 : Int) b (min b.len (20 : Nat))).snd)
 (bD (3 : Int) (4 : Int) a (min a.len (20 : Nat)))
 (bD (3 : Int) (4 : Int) b (min b.len (20 : Nat)))).snd ∧
 (twoD wdI (bD (3 : Int) (4 : Int) a (min a.len (20 : Nat)))
 (bD (3 : Int) (4 : Int) b (min b.len (20 : Nat)))).rows =
 (twoD wdI (bD (3 : Int) (4 : Int) a (min a.len (20 : Nat)))
 (bD (3 : Int) (4 : Int) b (min b.len (20 : Nat)))).rows) ∧
 ∀ (i : Nat),
 i.le (3 : Nat) →
 (decide ((↑i : Int) < (3 : Int)) = true →
 (inQ (bL (3 : Int) (4 : Int) a (min a.len (20 : Nat)))
 (bD (3 : Int) (4 : Int) a (min a.len (20 : Nat)))
 (bL (3 : Int) (4 : Int) b (min b.len (20 : Nat)))
 (bD (3 : Int) (4 : Int) b (min b.len (20 : Nat))) i =
 true ∧
 True →
 (0 : Int) ≤ (↑i : Int) ∧
 (↑i : Int) < (↑(bD (3 : Int) (4 : Int) a (min a.len (20 : Nat))).len : Int)) ∧
 (inQ (bL (3 : Int) (4 : Int) a (min a.len (20 : Nat)))
 (bD (3 : Int) (4 : Int) a (min a.len (20 : Nat)))
 (bL (3 : Int) (4 : Int) b (min b.len (20 : Nat)))
 (bD (3 : Int) (4 : Int) b (min b.len (20 : Nat))) i =
 true ∧
 True →
 (0 : Int) ≤ (↑i : Int) ∧
 (↑i : Int) < (↑(bD (3 : Int) (4 : Int) a (min a.len (20 : Nat))).len : Int)) ∧
 (decide
 (((bD (3 : Int) (4 : Int) a (min a.len (20 : Nat))).el (↑i : Int).toNat
 ((0 : Nat) + (0 : Nat))).toI >
 ((bD (3 : Int) (4 : Int) a (min a.len (20 : Nat))).el (↑i : Int).toNat
 ((0 : Nat) + (1 : Nat))).toI) =
 false ∧
 inQ (bL (3 : Int) (4 : Int) a (min a.len (20 : Nat)))
 (bD (3 : Int) (4 : Int) a (min a.len (20 : Nat)))
 (bL (3 : Int) (4 : Int) b (min b.len (20 : Nat)))
 (bD (3 : Int) (4 : Int) b (min b.len (20 : Nat))) i =
 true ∧
 True →
 (0 : Int) ≤ (↑i : Int) ∧
 (↑i : Int) < (↑(bD (3 : Int) (4 : Int) b (min b.len (20 : Nat))).len : Int)) ∧
 (decide
 (((bD (3 : Int) (4 : Int) a (min a.len (20 : Nat))).el (↑i : Int).toNat
 ((0 : Nat) + (0 : Nat))).toI >
 ((bD (3 : Int) (4 : Int) a (min a.len (20 : Nat))).el (↑i : Int).toNat
 ((0 : Nat) + (1 : Nat))).toI) =
 false ∧
 inQ (bL (3 : Int) (4 : Int) a (min a.len (20 : Nat)))
 (bD (3 : Int) (4 : Int) a (min a.len (20 : Nat)))
 (bL (3 : Int) (4 : Int) b (min b.len (20 : Nat)))
 (bD (3 : Int) (4 : Int) b (min b.len (20 : Nat))) i =
 true ∧
 True →
 (0 : Int) ≤ (↑i : Int) ∧
 (↑i : Int) < (↑(bD (3 : Int) (4 : Int) a (min a.len (20 : Nat))).len : Int)) ∧
 (decide
 (((bD (3 : Int) (4 : Int) b (min b.len (20 : Nat))).el (↑i : Int).toNat
 ((0 : Nat) + (0 : Nat))).toI ≤
 ((bD (3 : Int) (4 : Int) a (min a.len (20 : Nat))).el (↑i : Int).toNat
 ((0 : Nat) + (0 : Nat))).toI) =
 true ∧
 decide
 (((bD (3 : Int) (4 : Int) a (min a.len (20 : Nat))).el (↑i : Int).toNat
 ((0 : Nat) + (0 : Nat))).toI >
 ((bD (3 : Int) (4 : Int) a (min a.len (20 : Nat))).el (↑i : Int).toNat
 ((0 : Nat) + (1 : Nat))).toI) =
 false ∧
 inQ (bL (3 : Int) (4 : Int) a (min a.len (20 : Nat)))
 (bD (3 : Int) (4 : Int) a (min a.len (20 : Nat)))
 (bL (3 : Int) (4 : Int) b (min b.len (20 : Nat)))
 (bD (3 : Int) (4 : Int) b (min b.len (20 : Nat))) i =
 true ∧
 True →
 (0 : Int) ≤ (↑i : Int) ∧
 (↑i : Int) < (↑(bD (3 : Int) (4 : Int) a (min a.len (20 : Nat))).len : Int)) ∧
 (decide
 (((bD (3 : Int) (4 : Int) b (min b.len (20 : Nat))).el (↑i : Int).toNat
 ((0 : Nat) + (0 : Nat))).toI ≤
 ((bD (3 : Int) (4 : Int) a (min a.len (20 : Nat))).el (↑i : Int).toNat
 ((0 : Nat) + (0 : Nat))).toI) =
 true ∧
 decide
 (((bD (3 : Int) (4 : Int) a (min a.len (20 : Nat))).el (↑i : Int).toNat
 ((0 : Nat) + (0 : Nat))).toI >
 ((bD (3 : Int) (4 : Int) a (min a.len (20 : Nat))).el (↑i : Int).toNat
 ((0 : Nat) + (1 : Nat))).toI) =
 false ∧
 inQ (bL (3 : Int) (4 : Int) a (min a.len (20 : Nat)))
 (bD (3 : Int) (4 : Int) a (min a.len (20 : Nat)))
 (bL (3 : Int) (4 : Int) b (min b.len (20 : Nat)))
 (bD (3 : Int) (4 : Int) b (min b.len (20 : Nat))) i =
 true ∧
 True →
 (0 : Int) ≤ (↑i : Int) ∧
 (↑i : Int) < (↑(bD (3 : Int) (4 : Int) b (min b.len (20 : Nat))).len : Int)) ∧
 ∃ (j : Nat),
 j.le (3 : Nat) ∧
 (4 : Nat) - j < (4 : Nat) - i ∧
 IntKind.i64.wrap ((↑i : Int) + (1 : Int)) = (↑j : Int) ∧
 (inQ (bL (3 : Int) (4 : Int) a (min a.len (20 : Nat)))
 (bD (3 : Int) (4 : Int) a (min a.len (20 : Nat)))
 (bL (3 : Int) (4 : Int) b (min b.len (20 : Nat)))
 (bD (3 : Int) (4 : Int) b (min b.len (20 : Nat))) i &&
 (decide
 (((bD (3 : Int) (4 : Int) a (min a.len (20 : Nat))).el
 (↑i : Int).toNat ((0 : Nat) + (0 : Nat))).toI >
 ((bD (3 : Int) (4 : Int) a (min a.len (20 : Nat))).el
 (↑i : Int).toNat ((0 : Nat) + (1 : Nat))).toI) ||
 decide
 (((bD (3 : Int) (4 : Int) b (min b.len (20 : Nat))).el
 (↑i : Int).toNat ((0 : Nat) + (0 : Nat))).toI ≤
 ((bD (3 : Int) (4 : Int) a (min a.len (20 : Nat))).el
 (↑i : Int).toNat ((0 : Nat) + (0 : Nat))).toI) &&
 decide
 (((bD (3 : Int) (4 : Int) a (min a.len (20 : Nat))).el
 (↑i : Int).toNat ((0 : Nat) + (1 : Nat))).toI ≤
 ((bD (3 : Int) (4 : Int) b (min b.len (20 : Nat))).el
 (↑i : Int).toNat ((0 : Nat) + (1 : Nat))).toI))) =
 inQ (bL (3 : Int) (4 : Int) a (min a.len (20 : Nat)))
 (bD (3 : Int) (4 : Int) a (min a.len (20 : Nat)))
 (bL (3 : Int) (4 : Int) b (min b.len (20 : Nat)))
 (bD (3 : Int) (4 : Int) b (min b.len (20 : Nat))) j ∧
 false = false ∧
 (bL (3 : Int) (4 : Int) a (min a.len (20 : Nat))).fst =
 (bL (3 : Int) (4 : Int) a (min a.len (20 : Nat))).fst ∧
 (bL (3 : Int) (4 : Int) a (min a.len (20 : Nat))).snd =
 (bL (3 : Int) (4 : Int) a (min a.len (20 : Nat))).snd ∧
 (bD (3 : Int) (4 : Int) a (min a.len (20 : Nat))).rows =
 (bD (3 : Int) (4 : Int) a (min a.len (20 : Nat))).rows ∧
 (bL (3 : Int) (4 : Int) a (min a.len (20 : Nat))).fst =
 (bL (3 : Int) (4 : Int) a (min a.len (20 : Nat))).fst ∧
 (bL (3 : Int) (4 : Int) a (min a.len (20 : Nat))).snd =
 (bL (3 : Int) (4 : Int) a (min a.len (20 : Nat))).snd ∧
 (bD (3 : Int) (4 : Int) a (min a.len (20 : Nat))).rows =
 (bD (3 : Int) (4 : Int) a (min a.len (20 : Nat))).rows ∧
 (bL (3 : Int) (4 : Int) b (min b.len (20 : Nat))).fst =
 (bL (3 : Int) (4 : Int) b (min b.len (20 : Nat))).fst ∧
 (bL (3 : Int) (4 : Int) b (min b.len (20 : Nat))).snd =
 (bL (3 : Int) (4 : Int) b (min b.len (20 : Nat))).snd ∧
 (bD (3 : Int) (4 : Int) b (min b.len (20 : Nat))).rows =
 (bD (3 : Int) (4 : Int) b (min b.len (20 : Nat))).rows ∧
 (bL (3 : Int) (4 : Int) b (min b.len (20 : Nat))).fst =
 (bL (3 : Int) (4 : Int) b
 (min b.len (20 : Nat))).fst ∧
 (bL (3 : Int) (4 : Int) b (min b.len (20 : Nat))).snd =
 (bL (3 : Int) (4 : Int) b
 (min b.len (20 : Nat))).snd ∧
 (bD (3 : Int) (4 : Int) b
 (min b.len (20 : Nat))).rows =
 (bD (3 : Int) (4 : Int) b
 (min b.len (20 : Nat))).rows ∧
 (twoL jnI
 ((bL (3 : Int) (4 : Int) a
 (min a.len (20 : Nat))).fst,
 (bL (3 : Int) (4 : Int) a
 (min a.len (20 : Nat))).snd)
 ((bL (3 : Int) (4 : Int) b
 (min b.len (20 : Nat))).fst,
 (bL (3 : Int) (4 : Int) b
 (min b.len (20 : Nat))).snd)
 (bD (3 : Int) (4 : Int) a
 (min a.len (20 : Nat)))
 (bD (3 : Int) (4 : Int) b
 (min b.len (20 : Nat)))).fst =
 (twoL jnI
 ((bL (3 : Int) (4 : Int) a
 (min a.len (20 : Nat))).fst,
 (bL (3 : Int) (4 : Int) a
 (min a.len (20 : Nat))).snd)
 ((bL (3 : Int) (4 : Int) b
 (min b.len (20 : Nat))).fst,
 (bL (3 : Int) (4 : Int) b
 (min b.len (20 : Nat))).snd)
 (bD (3 : Int) (4 : Int) a
 (min a.len (20 : Nat)))
 (bD (3 : Int) (4 : Int) b
 (min b.len (20 : Nat)))).fst ∧
 (twoL jnI
 ((bL (3 : Int) (4 : Int) a
 (min a.len (20 : Nat))).fst,
 (bL (3 : Int) (4 : Int) a
 (min a.len (20 : Nat))).snd)
 ((bL (3 : Int) (4 : Int) b
 (min b.len (20 : Nat))).fst,
 (bL (3 : Int) (4 : Int) b
 (min b.len (20 : Nat))).snd)
 (bD (3 : Int) (4 : Int) a
 (min a.len (20 : Nat)))
 (bD (3 : Int) (4 : Int) b
 (min b.len (20 : Nat)))).snd =
 (twoL jnI
 ((bL (3 : Int) (4 : Int) a
 (min a.len (20 : Nat))).fst,
 (bL (3 : Int) (4 : Int) a
 (min a.len (20 : Nat))).snd)
 ((bL (3 : Int) (4 : Int) b
 (min b.len (20 : Nat))).fst,
 (bL (3 : Int) (4 : Int) b
 (min b.len (20 : Nat))).snd)
 (bD (3 : Int) (4 : Int) a
 (min a.len (20 : Nat)))
 (bD (3 : Int) (4 : Int) b
 (min b.len (20 : Nat)))).snd ∧
 (twoD jnI
 (bD (3 : Int) (4 : Int) a
 (min a.len (20 : Nat)))
 (bD (3 : Int) (4 : Int) b
 (min b.len (20 : Nat)))).rows =
 (twoD jnI
 (bD (3 : Int) (4 : Int) a
 (min a.len (20 : Nat)))
 (bD (3 : Int) (4 : Int) b
 (min b.len (20 : Nat)))).rows ∧
 (twoL wdI
 ((bL (3 : Int) (4 : Int) a
 (min a.len (20 : Nat))).fst,
 (bL (3 : Int) (4 : Int) a
 (min a.len (20 : Nat))).snd)
 ((bL (3 : Int) (4 : Int) b
 (min b.len (20 : Nat))).fst,
 (bL (3 : Int) (4 : Int) b
 (min b.len (20 : Nat))).snd)
 (bD (3 : Int) (4 : Int) a
 (min a.len (20 : Nat)))
 (bD (3 : Int) (4 : Int) b
 (min b.len (20 : Nat)))).fst =
 (twoL wdI
 ((bL (3 : Int) (4 : Int) a
 (min a.len (20 : Nat))).fst,
 (bL (3 : Int) (4 : Int) a
 (min a.len (20 : Nat))).snd)
 ((bL (3 : Int) (4 : Int) b
 (min b.len (20 : Nat))).fst,
 (bL (3 : Int) (4 : Int) b
 (min b.len (20 : Nat))).snd)
 (bD (3 : Int) (4 : Int) a
 (min a.len (20 : Nat)))
 (bD (3 : Int) (4 : Int) b
 (min b.len (20 : Nat)))).fst ∧
 (twoL wdI
 ((bL (3 : Int) (4 : Int) a
 (min a.len (20 : Nat))).fst,
 (bL (3 : Int) (4 : Int) a
 (min a.len (20 : Nat))).snd)
 ((bL (3 : Int) (4 : Int) b
 (min b.len (20 : Nat))).fst,
 (bL (3 : Int) (4 : Int) b
 (min b.len (20 : Nat))).snd)
 (bD (3 : Int) (4 : Int) a
 (min a.len (20 : Nat)))
 (bD (3 : Int) (4 : Int) b
 (min b.len (20 : Nat)))).snd =
 (twoL wdI
 ((bL (3 : Int) (4 : Int) a
 (min a.len (20 : Nat))).fst,
 (bL (3 : Int) (4 : Int) a
 (min a.len (20 : Nat))).snd)
 ((bL (3 : Int) (4 : Int) b
 (min b.len (20 : Nat))).fst,
 (bL (3 : Int) (4 : Int) b
 (min b.len (20 : Nat))).snd)
 (bD (3 : Int) (4 : Int) a
 (min a.len (20 : Nat)))
 (bD (3 : Int) (4 : Int) b
 (min b.len (20 : Nat)))).snd ∧
 (twoD wdI
 (bD (3 : Int) (4 : Int) a
 (min a.len (20 : Nat)))
 (bD (3 : Int) (4 : Int) b
 (min b.len (20 : Nat)))).rows =
 (twoD wdI
 (bD (3 : Int) (4 : Int) a
 (min a.len (20 : Nat)))
 (bD (3 : Int) (4 : Int) b
 (min b.len (20 : Nat)))).rows) ∧
 (decide ((↑i : Int) < (3 : Int)) = false →
 ((1 : Int) ≤ (2 : Int) ∧ (2 : Int) ≤ (4 : Int)) ∧
 (bD (3 : Int) (4 : Int) a (min a.len (20 : Nat))).len ≤ (8796093022208 : Nat) ∧
 ((winE
 ((bL (3 : Int) (4 : Int) a (min a.len (20 : Nat))).fst,
 (bL (3 : Int) (4 : Int) a (min a.len (20 : Nat))).snd)
 (bD (3 : Int) (4 : Int) a (min a.len (20 : Nat)))
 ((bL (3 : Int) (4 : Int) b (min b.len (20 : Nat))).fst,
 (bL (3 : Int) (4 : Int) b (min b.len (20 : Nat))).snd)
 (bD (3 : Int) (4 : Int) b (min b.len (20 : Nat))) ==
 inQ (bL (3 : Int) (4 : Int) a (min a.len (20 : Nat)))
 (bD (3 : Int) (4 : Int) a (min a.len (20 : Nat)))
 (bL (3 : Int) (4 : Int) b (min b.len (20 : Nat)))
 (bD (3 : Int) (4 : Int) b (min b.len (20 : Nat))) i) =
 true ∧
 True →
 (bD (3 : Int) (4 : Int) a (min a.len (20 : Nat))).len ≤ (8796093022208 : Nat)) ∧
 ((winE
 ((bL (3 : Int) (4 : Int) a (min a.len (20 : Nat))).fst,
 (bL (3 : Int) (4 : Int) a (min a.len (20 : Nat))).snd)
 (bD (3 : Int) (4 : Int) a (min a.len (20 : Nat)))
 ((bL (3 : Int) (4 : Int) b (min b.len (20 : Nat))).fst,
 (bL (3 : Int) (4 : Int) b (min b.len (20 : Nat))).snd)
 (bD (3 : Int) (4 : Int) b (min b.len (20 : Nat))) ==
 inQ (bL (3 : Int) (4 : Int) a (min a.len (20 : Nat)))
 (bD (3 : Int) (4 : Int) a (min a.len (20 : Nat)))
 (bL (3 : Int) (4 : Int) b (min b.len (20 : Nat)))
 (bD (3 : Int) (4 : Int) b (min b.len (20 : Nat))) i &&
 winE
 ((bL (3 : Int) (4 : Int) a (min a.len (20 : Nat))).fst,
 (bL (3 : Int) (4 : Int) a (min a.len (20 : Nat))).snd)
 (bD (3 : Int) (4 : Int) a (min a.len (20 : Nat)))
 ((twoL jnI
 ((bL (3 : Int) (4 : Int) a (min a.len (20 : Nat))).fst,
 (bL (3 : Int) (4 : Int) a (min a.len (20 : Nat))).snd)
 ((bL (3 : Int) (4 : Int) b (min b.len (20 : Nat))).fst,
 (bL (3 : Int) (4 : Int) b (min b.len (20 : Nat))).snd)
 (bD (3 : Int) (4 : Int) a (min a.len (20 : Nat)))
 (bD (3 : Int) (4 : Int) b (min b.len (20 : Nat)))).fst,
 (twoL jnI
 ((bL (3 : Int) (4 : Int) a (min a.len (20 : Nat))).fst,
 (bL (3 : Int) (4 : Int) a (min a.len (20 : Nat))).snd)
 ((bL (3 : Int) (4 : Int) b (min b.len (20 : Nat))).fst,
 (bL (3 : Int) (4 : Int) b (min b.len (20 : Nat))).snd)
 (bD (3 : Int) (4 : Int) a (min a.len (20 : Nat)))
 (bD (3 : Int) (4 : Int) b (min b.len (20 : Nat)))).snd)
 (twoD jnI (bD (3 : Int) (4 : Int) a (min a.len (20 : Nat)))
 (bD (3 : Int) (4 : Int) b (min b.len (20 : Nat))))) =
 true ∧
 True →
 (twoD jnI (bD (3 : Int) (4 : Int) a (min a.len (20 : Nat)))
 (bD (3 : Int) (4 : Int) b (min b.len (20 : Nat)))).len ≤
 (8796093022208 : Nat)) ∧
 ((winE
 ((bL (3 : Int) (4 : Int) a (min a.len (20 : Nat))).fst,
 (bL (3 : Int) (4 : Int) a (min a.len (20 : Nat))).snd)
 (bD (3 : Int) (4 : Int) a (min a.len (20 : Nat)))
 ((bL (3 : Int) (4 : Int) b (min b.len (20 : Nat))).fst,
 (bL (3 : Int) (4 : Int) b (min b.len (20 : Nat))).snd)
 (bD (3 : Int) (4 : Int) b (min b.len (20 : Nat))) ==
 inQ (bL (3 : Int) (4 : Int) a (min a.len (20 : Nat)))
 (bD (3 : Int) (4 : Int) a (min a.len (20 : Nat)))
 (bL (3 : Int) (4 : Int) b (min b.len (20 : Nat)))
 (bD (3 : Int) (4 : Int) b (min b.len (20 : Nat))) i &&
 winE
 ((bL (3 : Int) (4 : Int) a (min a.len (20 : Nat))).fst,
 (bL (3 : Int) (4 : Int) a (min a.len (20 : Nat))).snd)
 (bD (3 : Int) (4 : Int) a (min a.len (20 : Nat)))
 ((twoL jnI
 ((bL (3 : Int) (4 : Int) a (min a.len (20 : Nat))).fst,
 (bL (3 : Int) (4 : Int) a (min a.len (20 : Nat))).snd)
 ((bL (3 : Int) (4 : Int) b (min b.len (20 : Nat))).fst,
 (bL (3 : Int) (4 : Int) b (min b.len (20 : Nat))).snd)
 (bD (3 : Int) (4 : Int) a (min a.len (20 : Nat)))
 (bD (3 : Int) (4 : Int) b (min b.len (20 : Nat)))).fst,
 (twoL jnI
 ((bL (3 : Int) (4 : Int) a (min a.len (20 : Nat))).fst,
 (bL (3 : Int) (4 : Int) a (min a.len (20 : Nat))).snd)
 ((bL (3 : Int) (4 : Int) b (min b.len (20 : Nat))).fst,
 (bL (3 : Int) (4 : Int) b (min b.len (20 : Nat))).snd)
 (bD (3 : Int) (4 : Int) a (min a.len (20 : Nat)))
 (bD (3 : Int) (4 : Int) b (min b.len (20 : Nat)))).snd)
 (twoD jnI (bD (3 : Int) (4 : Int) a (min a.len (20 : Nat)))
 (bD (3 : Int) (4 : Int) b (min b.len (20 : Nat)))) &&
 winE
 ((twoL jnI
 ((bL (3 : Int) (4 : Int) a (min a.len (20 : Nat))).fst,
 (bL (3 : Int) (4 : Int) a (min a.len (20 : Nat))).snd)
 ((bL (3 : Int) (4 : Int) b (min b.len (20 : Nat))).fst,
 (bL (3 : Int) (4 : Int) b (min b.len (20 : Nat))).snd)
 (bD (3 : Int) (4 : Int) a (min a.len (20 : Nat)))
 (bD (3 : Int) (4 : Int) b (min b.len (20 : Nat)))).fst,
 (twoL jnI
 ((bL (3 : Int) (4 : Int) a (min a.len (20 : Nat))).fst,
 (bL (3 : Int) (4 : Int) a (min a.len (20 : Nat))).snd)
 ((bL (3 : Int) (4 : Int) b (min b.len (20 : Nat))).fst,
 (bL (3 : Int) (4 : Int) b (min b.len (20 : Nat))).snd)
 (bD (3 : Int) (4 : Int) a (min a.len (20 : Nat)))
 (bD (3 : Int) (4 : Int) b (min b.len (20 : Nat)))).snd)
 (twoD jnI (bD (3 : Int) (4 : Int) a (min a.len (20 : Nat)))
 (bD (3 : Int) (4 : Int) b (min b.len (20 : Nat))))
 ((twoL wdI
 ((bL (3 : Int) (4 : Int) a (min a.len (20 : Nat))).fst,
 (bL (3 : Int) (4 : Int) a (min a.len (20 : Nat))).snd)
 ((bL (3 : Int) (4 : Int) b (min b.len (20 : Nat))).fst,
 (bL (3 : Int) (4 : Int) b (min b.len (20 : Nat))).snd)
 (bD (3 : Int) (4 : Int) a (min a.len (20 : Nat)))
 (bD (3 : Int) (4 : Int) b (min b.len (20 : Nat)))).fst,
 (twoL wdI
 ((bL (3 : Int) (4 : Int) a (min a.len (20 : Nat))).fst,
 (bL (3 : Int) (4 : Int) a (min a.len (20 : Nat))).snd)
 ((bL (3 : Int) (4 : Int) b (min b.len (20 : Nat))).fst,
 (bL (3 : Int) (4 : Int) b (min b.len (20 : Nat))).snd)
 (bD (3 : Int) (4 : Int) a (min a.len (20 : Nat)))
 (bD (3 : Int) (4 : Int) b (min b.len (20 : Nat)))).snd)
 (twoD wdI (bD (3 : Int) (4 : Int) a (min a.len (20 : Nat)))
 (bD (3 : Int) (4 : Int) b (min b.len (20 : Nat))))) =
 true ∧
 True →
 (bD (3 : Int) (4 : Int) a (min a.len (20 : Nat))).len ≤ (8796093022208 : Nat)) ∧
 ((winE
 ((bL (3 : Int) (4 : Int) a (min a.len (20 : Nat))).fst,
 (bL (3 : Int) (4 : Int) a (min a.len (20 : Nat))).snd)
 (bD (3 : Int) (4 : Int) a (min a.len (20 : Nat)))
 ((bL (3 : Int) (4 : Int) b (min b.len (20 : Nat))).fst,
 (bL (3 : Int) (4 : Int) b (min b.len (20 : Nat))).snd)
 (bD (3 : Int) (4 : Int) b (min b.len (20 : Nat))) ==
 inQ (bL (3 : Int) (4 : Int) a (min a.len (20 : Nat)))
 (bD (3 : Int) (4 : Int) a (min a.len (20 : Nat)))
 (bL (3 : Int) (4 : Int) b (min b.len (20 : Nat)))
 (bD (3 : Int) (4 : Int) b (min b.len (20 : Nat))) i &&
 winE
 ((bL (3 : Int) (4 : Int) a (min a.len (20 : Nat))).fst,
 (bL (3 : Int) (4 : Int) a (min a.len (20 : Nat))).snd)
 (bD (3 : Int) (4 : Int) a (min a.len (20 : Nat)))
 ((twoL jnI
 ((bL (3 : Int) (4 : Int) a (min a.len (20 : Nat))).fst,
 (bL (3 : Int) (4 : Int) a (min a.len (20 : Nat))).snd)
 ((bL (3 : Int) (4 : Int) b (min b.len (20 : Nat))).fst,
 (bL (3 : Int) (4 : Int) b (min b.len (20 : Nat))).snd)
 (bD (3 : Int) (4 : Int) a (min a.len (20 : Nat)))
 (bD (3 : Int) (4 : Int) b (min b.len (20 : Nat)))).fst,
 (twoL jnI
 ((bL (3 : Int) (4 : Int) a (min a.len (20 : Nat))).fst,
 (bL (3 : Int) (4 : Int) a (min a.len (20 : Nat))).snd)
 ((bL (3 : Int) (4 : Int) b (min b.len (20 : Nat))).fst,
 (bL (3 : Int) (4 : Int) b (min b.len (20 : Nat))).snd)
 (bD (3 : Int) (4 : Int) a (min a.len (20 : Nat)))
 (bD (3 : Int) (4 : Int) b (min b.len (20 : Nat)))).snd)
 (twoD jnI (bD (3 : Int) (4 : Int) a (min a.len (20 : Nat)))
 (bD (3 : Int) (4 : Int) b (min b.len (20 : Nat)))) &&
 winE
 ((twoL jnI
 ((bL (3 : Int) (4 : Int) a (min a.len (20 : Nat))).fst,
 (bL (3 : Int) (4 : Int) a (min a.len (20 : Nat))).snd)
 ((bL (3 : Int) (4 : Int) b (min b.len (20 : Nat))).fst,
 (bL (3 : Int) (4 : Int) b (min b.len (20 : Nat))).snd)
 (bD (3 : Int) (4 : Int) a (min a.len (20 : Nat)))
 (bD (3 : Int) (4 : Int) b (min b.len (20 : Nat)))).fst,
 (twoL jnI
 ((bL (3 : Int) (4 : Int) a (min a.len (20 : Nat))).fst,
 (bL (3 : Int) (4 : Int) a (min a.len (20 : Nat))).snd)
 ((bL (3 : Int) (4 : Int) b (min b.len (20 : Nat))).fst,
 (bL (3 : Int) (4 : Int) b (min b.len (20 : Nat))).snd)
 (bD (3 : Int) (4 : Int) a (min a.len (20 : Nat)))
 (bD (3 : Int) (4 : Int) b (min b.len (20 : Nat)))).snd)
 (twoD jnI (bD (3 : Int) (4 : Int) a (min a.len (20 : Nat)))
 (bD (3 : Int) (4 : Int) b (min b.len (20 : Nat))))
 ((twoL wdI
 ((bL (3 : Int) (4 : Int) a (min a.len (20 : Nat))).fst,
 (bL (3 : Int) (4 : Int) a (min a.len (20 : Nat))).snd)
 ((bL (3 : Int) (4 : Int) b (min b.len (20 : Nat))).fst,
 (bL (3 : Int) (4 : Int) b (min b.len (20 : Nat))).snd)
 (bD (3 : Int) (4 : Int) a (min a.len (20 : Nat)))
 (bD (3 : Int) (4 : Int) b (min b.len (20 : Nat)))).fst,
 (twoL wdI
 ((bL (3 : Int) (4 : Int) a (min a.len (20 : Nat))).fst,
 (bL (3 : Int) (4 : Int) a (min a.len (20 : Nat))).snd)
 ((bL (3 : Int) (4 : Int) b (min b.len (20 : Nat))).fst,
 (bL (3 : Int) (4 : Int) b (min b.len (20 : Nat))).snd)
 (bD (3 : Int) (4 : Int) a (min a.len (20 : Nat)))
 (bD (3 : Int) (4 : Int) b (min b.len (20 : Nat)))).snd)
 (twoD wdI (bD (3 : Int) (4 : Int) a (min a.len (20 : Nat)))
 (bD (3 : Int) (4 : Int) b (min b.len (20 : Nat))))) =
 true ∧
 True →
 (twoD jnI (bD (3 : Int) (4 : Int) a (min a.len (20 : Nat)))
 (prD (Int.toNat (2 : Int)) fun (x : Nat) => ((1 : Int), (0 : Int)))).len ≤
 (8796093022208 : Nat)) ∧
 ((winE
 ((bL (3 : Int) (4 : Int) a (min a.len (20 : Nat))).fst,
 (bL (3 : Int) (4 : Int) a (min a.len (20 : Nat))).snd)
 (bD (3 : Int) (4 : Int) a (min a.len (20 : Nat)))
 ((bL (3 : Int) (4 : Int) b (min b.len (20 : Nat))).fst,
 (bL (3 : Int) (4 : Int) b (min b.len (20 : Nat))).snd)
 (bD (3 : Int) (4 : Int) b (min b.len (20 : Nat))) ==
 inQ (bL (3 : Int) (4 : Int) a (min a.len (20 : Nat)))
 (bD (3 : Int) (4 : Int) a (min a.len (20 : Nat)))
 (bL (3 : Int) (4 : Int) b (min b.len (20 : Nat)))
 (bD (3 : Int) (4 : Int) b (min b.len (20 : Nat))) i &&
 winE
 ((bL (3 : Int) (4 : Int) a (min a.len (20 : Nat))).fst,
 (bL (3 : Int) (4 : Int) a (min a.len (20 : Nat))).snd)
 (bD (3 : Int) (4 : Int) a (min a.len (20 : Nat)))
 ((twoL jnI
 ((bL (3 : Int) (4 : Int) a (min a.len (20 : Nat))).fst,
 (bL (3 : Int) (4 : Int) a (min a.len (20 : Nat))).snd)
 ((bL (3 : Int) (4 : Int) b (min b.len (20 : Nat))).fst,
 (bL (3 : Int) (4 : Int) b (min b.len (20 : Nat))).snd)
 (bD (3 : Int) (4 : Int) a (min a.len (20 : Nat)))
 (bD (3 : Int) (4 : Int) b (min b.len (20 : Nat)))).fst,
 (twoL jnI
 ((bL (3 : Int) (4 : Int) a (min a.len (20 : Nat))).fst,
 (bL (3 : Int) (4 : Int) a (min a.len (20 : Nat))).snd)
 ((bL (3 : Int) (4 : Int) b (min b.len (20 : Nat))).fst,
 (bL (3 : Int) (4 : Int) b (min b.len (20 : Nat))).snd)
 (bD (3 : Int) (4 : Int) a (min a.len (20 : Nat)))
 (bD (3 : Int) (4 : Int) b (min b.len (20 : Nat)))).snd)
 (twoD jnI (bD (3 : Int) (4 : Int) a (min a.len (20 : Nat)))
 (bD (3 : Int) (4 : Int) b (min b.len (20 : Nat)))) &&
 winE
 ((twoL jnI
 ((bL (3 : Int) (4 : Int) a (min a.len (20 : Nat))).fst,
 (bL (3 : Int) (4 : Int) a (min a.len (20 : Nat))).snd)
 ((bL (3 : Int) (4 : Int) b (min b.len (20 : Nat))).fst,
 (bL (3 : Int) (4 : Int) b (min b.len (20 : Nat))).snd)
 (bD (3 : Int) (4 : Int) a (min a.len (20 : Nat)))
 (bD (3 : Int) (4 : Int) b (min b.len (20 : Nat)))).fst,
 (twoL jnI
 ((bL (3 : Int) (4 : Int) a (min a.len (20 : Nat))).fst,
 (bL (3 : Int) (4 : Int) a (min a.len (20 : Nat))).snd)
 ((bL (3 : Int) (4 : Int) b (min b.len (20 : Nat))).fst,
 (bL (3 : Int) (4 : Int) b (min b.len (20 : Nat))).snd)
 (bD (3 : Int) (4 : Int) a (min a.len (20 : Nat)))
 (bD (3 : Int) (4 : Int) b (min b.len (20 : Nat)))).snd)
 (twoD jnI (bD (3 : Int) (4 : Int) a (min a.len (20 : Nat)))
 (bD (3 : Int) (4 : Int) b (min b.len (20 : Nat))))
 ((twoL wdI
 ((bL (3 : Int) (4 : Int) a (min a.len (20 : Nat))).fst,
 (bL (3 : Int) (4 : Int) a (min a.len (20 : Nat))).snd)
 ((bL (3 : Int) (4 : Int) b (min b.len (20 : Nat))).fst,
 (bL (3 : Int) (4 : Int) b (min b.len (20 : Nat))).snd)
 (bD (3 : Int) (4 : Int) a (min a.len (20 : Nat)))
 (bD (3 : Int) (4 : Int) b (min b.len (20 : Nat)))).fst,
 (twoL wdI
 ((bL (3 : Int) (4 : Int) a (min a.len (20 : Nat))).fst,
 (bL (3 : Int) (4 : Int) a (min a.len (20 : Nat))).snd)
 ((bL (3 : Int) (4 : Int) b (min b.len (20 : Nat))).fst,
 (bL (3 : Int) (4 : Int) b (min b.len (20 : Nat))).snd)
 (bD (3 : Int) (4 : Int) a (min a.len (20 : Nat)))
 (bD (3 : Int) (4 : Int) b (min b.len (20 : Nat)))).snd)
 (twoD wdI (bD (3 : Int) (4 : Int) a (min a.len (20 : Nat)))
 (bD (3 : Int) (4 : Int) b (min b.len (20 : Nat))))) =
 true ∧
 True →
 (prD
 (twoD jnI (bD (3 : Int) (4 : Int) a (min a.len (20 : Nat)))
 (prD (Int.toNat (2 : Int)) fun (x : Nat) => ((1 : Int), (0 : Int)))).len
 (pr
 (twoD jnI (bD (3 : Int) (4 : Int) a (min a.len (20 : Nat)))
 (prD (Int.toNat (2 : Int)) fun (x : Nat) =>
 ((1 : Int), (0 : Int)))))).len ≤
 (8796093022208 : Nat)) ∧
 ((winE
 ((bL (3 : Int) (4 : Int) a (min a.len (20 : Nat))).fst,
 (bL (3 : Int) (4 : Int) a (min a.len (20 : Nat))).snd)
 (bD (3 : Int) (4 : Int) a (min a.len (20 : Nat)))
 ((bL (3 : Int) (4 : Int) b (min b.len (20 : Nat))).fst,
 (bL (3 : Int) (4 : Int) b (min b.len (20 : Nat))).snd)
 (bD (3 : Int) (4 : Int) b (min b.len (20 : Nat))) ==
 inQ (bL (3 : Int) (4 : Int) a (min a.len (20 : Nat)))
 (bD (3 : Int) (4 : Int) a (min a.len (20 : Nat)))
 (bL (3 : Int) (4 : Int) b (min b.len (20 : Nat)))
 (bD (3 : Int) (4 : Int) b (min b.len (20 : Nat))) i &&
 winE
 ((bL (3 : Int) (4 : Int) a (min a.len (20 : Nat))).fst,
 (bL (3 : Int) (4 : Int) a (min a.len (20 : Nat))).snd)
 (bD (3 : Int) (4 : Int) a (min a.len (20 : Nat)))
 ((twoL jnI
 ((bL (3 : Int) (4 : Int) a (min a.len (20 : Nat))).fst,
 (bL (3 : Int) (4 : Int) a (min a.len (20 : Nat))).snd)
 ((bL (3 : Int) (4 : Int) b (min b.len (20 : Nat))).fst,
 (bL (3 : Int) (4 : Int) b (min b.len (20 : Nat))).snd)
 (bD (3 : Int) (4 : Int) a (min a.len (20 : Nat)))
 (bD (3 : Int) (4 : Int) b (min b.len (20 : Nat)))).fst,
 (twoL jnI
 ((bL (3 : Int) (4 : Int) a (min a.len (20 : Nat))).fst,
 (bL (3 : Int) (4 : Int) a (min a.len (20 : Nat))).snd)
 ((bL (3 : Int) (4 : Int) b (min b.len (20 : Nat))).fst,
 (bL (3 : Int) (4 : Int) b (min b.len (20 : Nat))).snd)
 (bD (3 : Int) (4 : Int) a (min a.len (20 : Nat)))
 (bD (3 : Int) (4 : Int) b (min b.len (20 : Nat)))).snd)
 (twoD jnI (bD (3 : Int) (4 : Int) a (min a.len (20 : Nat)))
 (bD (3 : Int) (4 : Int) b (min b.len (20 : Nat)))) &&
 winE
 ((twoL jnI
 ((bL (3 : Int) (4 : Int) a (min a.len (20 : Nat))).fst,
 (bL (3 : Int) (4 : Int) a (min a.len (20 : Nat))).snd)
 ((bL (3 : Int) (4 : Int) b (min b.len (20 : Nat))).fst,
 (bL (3 : Int) (4 : Int) b (min b.len (20 : Nat))).snd)
 (bD (3 : Int) (4 : Int) a (min a.len (20 : Nat)))
 (bD (3 : Int) (4 : Int) b (min b.len (20 : Nat)))).fst,
 (twoL jnI
 ((bL (3 : Int) (4 : Int) a (min a.len (20 : Nat))).fst,
 (bL (3 : Int) (4 : Int) a (min a.len (20 : Nat))).snd)
 ((bL (3 : Int) (4 : Int) b (min b.len (20 : Nat))).fst,
 (bL (3 : Int) (4 : Int) b (min b.len (20 : Nat))).snd)
 (bD (3 : Int) (4 : Int) a (min a.len (20 : Nat)))
 (bD (3 : Int) (4 : Int) b (min b.len (20 : Nat)))).snd)
 (twoD jnI (bD (3 : Int) (4 : Int) a (min a.len (20 : Nat)))
 (bD (3 : Int) (4 : Int) b (min b.len (20 : Nat))))
 ((twoL wdI
 ((bL (3 : Int) (4 : Int) a (min a.len (20 : Nat))).fst,
 (bL (3 : Int) (4 : Int) a (min a.len (20 : Nat))).snd)
 ((bL (3 : Int) (4 : Int) b (min b.len (20 : Nat))).fst,
 (bL (3 : Int) (4 : Int) b (min b.len (20 : Nat))).snd)
 (bD (3 : Int) (4 : Int) a (min a.len (20 : Nat)))
 (bD (3 : Int) (4 : Int) b (min b.len (20 : Nat)))).fst,
 (twoL wdI
 ((bL (3 : Int) (4 : Int) a (min a.len (20 : Nat))).fst,
 (bL (3 : Int) (4 : Int) a (min a.len (20 : Nat))).snd)
 ((bL (3 : Int) (4 : Int) b (min b.len (20 : Nat))).fst,
 (bL (3 : Int) (4 : Int) b (min b.len (20 : Nat))).snd)
 (bD (3 : Int) (4 : Int) a (min a.len (20 : Nat)))
 (bD (3 : Int) (4 : Int) b (min b.len (20 : Nat)))).snd)
 (twoD wdI (bD (3 : Int) (4 : Int) a (min a.len (20 : Nat)))
 (bD (3 : Int) (4 : Int) b (min b.len (20 : Nat)))) &&
 sameE
 ((twoL jnI
 ((bL (3 : Int) (4 : Int) a (min a.len (20 : Nat))).fst,
 (bL (3 : Int) (4 : Int) a (min a.len (20 : Nat))).snd)
 ((0 : Int), (0 : Int))
 (bD (3 : Int) (4 : Int) a (min a.len (20 : Nat)))
 (prD (Int.toNat (2 : Int)) fun (x : Nat) =>
 ((1 : Int), (0 : Int)))).fst,
 (twoL jnI
 ((bL (3 : Int) (4 : Int) a (min a.len (20 : Nat))).fst,
 (bL (3 : Int) (4 : Int) a (min a.len (20 : Nat))).snd)
 ((0 : Int), (0 : Int))
 (bD (3 : Int) (4 : Int) a (min a.len (20 : Nat)))
 (prD (Int.toNat (2 : Int)) fun (x : Nat) =>
 ((1 : Int), (0 : Int)))).snd)
 (prD
 (twoD jnI (bD (3 : Int) (4 : Int) a (min a.len (20 : Nat)))
 (prD (Int.toNat (2 : Int)) fun (x : Nat) =>
 ((1 : Int), (0 : Int)))).len
 (pr
 (twoD jnI (bD (3 : Int) (4 : Int) a (min a.len (20 : Nat)))
 (prD (Int.toNat (2 : Int)) fun (x : Nat) =>
 ((1 : Int), (0 : Int))))))
 ((bL (3 : Int) (4 : Int) a (min a.len (20 : Nat))).fst,
 (bL (3 : Int) (4 : Int) a (min a.len (20 : Nat))).snd)
 (bD (3 : Int) (4 : Int) a (min a.len (20 : Nat)))) =
 true ∧
 True →
 (bD (3 : Int) (4 : Int) a (min a.len (20 : Nat))).len ≤ (8796093022208 : Nat)) ∧
 ((winE
 ((bL (3 : Int) (4 : Int) a (min a.len (20 : Nat))).fst,
 (bL (3 : Int) (4 : Int) a (min a.len (20 : Nat))).snd)
 (bD (3 : Int) (4 : Int) a (min a.len (20 : Nat)))
 ((bL (3 : Int) (4 : Int) b (min b.len (20 : Nat))).fst,
 (bL (3 : Int) (4 : Int) b (min b.len (20 : Nat))).snd)
 (bD (3 : Int) (4 : Int) b (min b.len (20 : Nat))) ==
 inQ (bL (3 : Int) (4 : Int) a (min a.len (20 : Nat)))
 (bD (3 : Int) (4 : Int) a (min a.len (20 : Nat)))
 (bL (3 : Int) (4 : Int) b (min b.len (20 : Nat)))
 (bD (3 : Int) (4 : Int) b (min b.len (20 : Nat))) i &&
 winE
 ((bL (3 : Int) (4 : Int) a (min a.len (20 : Nat))).fst,
 (bL (3 : Int) (4 : Int) a (min a.len (20 : Nat))).snd)
 (bD (3 : Int) (4 : Int) a (min a.len (20 : Nat)))
 ((twoL jnI
 ((bL (3 : Int) (4 : Int) a (min a.len (20 : Nat))).fst,
 (bL (3 : Int) (4 : Int) a (min a.len (20 : Nat))).snd)
 ((bL (3 : Int) (4 : Int) b (min b.len (20 : Nat))).fst,
 (bL (3 : Int) (4 : Int) b (min b.len (20 : Nat))).snd)
 (bD (3 : Int) (4 : Int) a (min a.len (20 : Nat)))
 (bD (3 : Int) (4 : Int) b (min b.len (20 : Nat)))).fst,
 (twoL jnI
 ((bL (3 : Int) (4 : Int) a (min a.len (20 : Nat))).fst,
 (bL (3 : Int) (4 : Int) a (min a.len (20 : Nat))).snd)
 ((bL (3 : Int) (4 : Int) b (min b.len (20 : Nat))).fst,
 (bL (3 : Int) (4 : Int) b (min b.len (20 : Nat))).snd)
 (bD (3 : Int) (4 : Int) a (min a.len (20 : Nat)))
 (bD (3 : Int) (4 : Int) b (min b.len (20 : Nat)))).snd)
 (twoD jnI (bD (3 : Int) (4 : Int) a (min a.len (20 : Nat)))
 (bD (3 : Int) (4 : Int) b (min b.len (20 : Nat)))) &&
 winE
 ((twoL jnI
 ((bL (3 : Int) (4 : Int) a (min a.len (20 : Nat))).fst,
 (bL (3 : Int) (4 : Int) a (min a.len (20 : Nat))).snd)
 ((bL (3 : Int) (4 : Int) b (min b.len (20 : Nat))).fst,
 (bL (3 : Int) (4 : Int) b (min b.len (20 : Nat))).snd)
 (bD (3 : Int) (4 : Int) a (min a.len (20 : Nat)))
 (bD (3 : Int) (4 : Int) b (min b.len (20 : Nat)))).fst,
 (twoL jnI
 ((bL (3 : Int) (4 : Int) a (min a.len (20 : Nat))).fst,
 (bL (3 : Int) (4 : Int) a (min a.len (20 : Nat))).snd)
 ((bL (3 : Int) (4 : Int) b (min b.len (20 : Nat))).fst,
 (bL (3 : Int) (4 : Int) b (min b.len (20 : Nat))).snd)
 (bD (3 : Int) (4 : Int) a (min a.len (20 : Nat)))
 (bD (3 : Int) (4 : Int) b (min b.len (20 : Nat)))).snd)
 (twoD jnI (bD (3 : Int) (4 : Int) a (min a.len (20 : Nat)))
 (bD (3 : Int) (4 : Int) b (min b.len (20 : Nat))))
 ((twoL wdI
 ((bL (3 : Int) (4 : Int) a (min a.len (20 : Nat))).fst,
 (bL (3 : Int) (4 : Int) a (min a.len (20 : Nat))).snd)
 ((bL (3 : Int) (4 : Int) b (min b.len (20 : Nat))).fst,
 (bL (3 : Int) (4 : Int) b (min b.len (20 : Nat))).snd)
 (bD (3 : Int) (4 : Int) a (min a.len (20 : Nat)))
 (bD (3 : Int) (4 : Int) b (min b.len (20 : Nat)))).fst,
 (twoL wdI
 ((bL (3 : Int) (4 : Int) a (min a.len (20 : Nat))).fst,
 (bL (3 : Int) (4 : Int) a (min a.len (20 : Nat))).snd)
 ((bL (3 : Int) (4 : Int) b (min b.len (20 : Nat))).fst,
 (bL (3 : Int) (4 : Int) b (min b.len (20 : Nat))).snd)
 (bD (3 : Int) (4 : Int) a (min a.len (20 : Nat)))
 (bD (3 : Int) (4 : Int) b (min b.len (20 : Nat)))).snd)
 (twoD wdI (bD (3 : Int) (4 : Int) a (min a.len (20 : Nat)))
 (bD (3 : Int) (4 : Int) b (min b.len (20 : Nat)))) &&
 sameE
 ((twoL jnI
 ((bL (3 : Int) (4 : Int) a (min a.len (20 : Nat))).fst,
 (bL (3 : Int) (4 : Int) a (min a.len (20 : Nat))).snd)
 ((0 : Int), (0 : Int))
 (bD (3 : Int) (4 : Int) a (min a.len (20 : Nat)))
 (prD (Int.toNat (2 : Int)) fun (x : Nat) =>
 ((1 : Int), (0 : Int)))).fst,
 (twoL jnI
 ((bL (3 : Int) (4 : Int) a (min a.len (20 : Nat))).fst,
 (bL (3 : Int) (4 : Int) a (min a.len (20 : Nat))).snd)
 ((0 : Int), (0 : Int))
 (bD (3 : Int) (4 : Int) a (min a.len (20 : Nat)))
 (prD (Int.toNat (2 : Int)) fun (x : Nat) =>
 ((1 : Int), (0 : Int)))).snd)
 (prD
 (twoD jnI (bD (3 : Int) (4 : Int) a (min a.len (20 : Nat)))
 (prD (Int.toNat (2 : Int)) fun (x : Nat) =>
 ((1 : Int), (0 : Int)))).len
 (pr
 (twoD jnI (bD (3 : Int) (4 : Int) a (min a.len (20 : Nat)))
 (prD (Int.toNat (2 : Int)) fun (x : Nat) =>
 ((1 : Int), (0 : Int))))))
 ((bL (3 : Int) (4 : Int) a (min a.len (20 : Nat))).fst,
 (bL (3 : Int) (4 : Int) a (min a.len (20 : Nat))).snd)
 (bD (3 : Int) (4 : Int) a (min a.len (20 : Nat)))) =
 true ∧
 True →
 (twoD wdI (bD (3 : Int) (4 : Int) a (min a.len (20 : Nat)))
 (prD (Int.toNat (2 : Int)) fun (x : Nat) => ((1 : Int), (0 : Int)))).len ≤
 (8796093022208 : Nat)) ∧
 ((winE
 ((bL (3 : Int) (4 : Int) a (min a.len (20 : Nat))).fst,
 (bL (3 : Int) (4 : Int) a (min a.len (20 : Nat))).snd)
 (bD (3 : Int) (4 : Int) a (min a.len (20 : Nat)))
 ((bL (3 : Int) (4 : Int) b (min b.len (20 : Nat))).fst,
 (bL (3 : Int) (4 : Int) b (min b.len (20 : Nat))).snd)
 (bD (3 : Int) (4 : Int) b (min b.len (20 : Nat))) ==
 inQ (bL (3 : Int) (4 : Int) a (min a.len (20 : Nat)))
 (bD (3 : Int) (4 : Int) a (min a.len (20 : Nat)))
 (bL (3 : Int) (4 : Int) b (min b.len (20 : Nat)))
 (bD (3 : Int) (4 : Int) b (min b.len (20 : Nat))) i &&
 winE
 ((bL (3 : Int) (4 : Int) a (min a.len (20 : Nat))).fst,
 (bL (3 : Int) (4 : Int) a (min a.len (20 : Nat))).snd)
 (bD (3 : Int) (4 : Int) a (min a.len (20 : Nat)))
 ((twoL jnI
 ((bL (3 : Int) (4 : Int) a (min a.len (20 : Nat))).fst,
 (bL (3 : Int) (4 : Int) a (min a.len (20 : Nat))).snd)
 ((bL (3 : Int) (4 : Int) b (min b.len (20 : Nat))).fst,
 (bL (3 : Int) (4 : Int) b (min b.len (20 : Nat))).snd)
 (bD (3 : Int) (4 : Int) a (min a.len (20 : Nat)))
 (bD (3 : Int) (4 : Int) b (min b.len (20 : Nat)))).fst,
 (twoL jnI
 ((bL (3 : Int) (4 : Int) a (min a.len (20 : Nat))).fst,
 (bL (3 : Int) (4 : Int) a (min a.len (20 : Nat))).snd)
 ((bL (3 : Int) (4 : Int) b (min b.len (20 : Nat))).fst,
 (bL (3 : Int) (4 : Int) b (min b.len (20 : Nat))).snd)
 (bD (3 : Int) (4 : Int) a (min a.len (20 : Nat)))
 (bD (3 : Int) (4 : Int) b (min b.len (20 : Nat)))).snd)
 (twoD jnI (bD (3 : Int) (4 : Int) a (min a.len (20 : Nat)))
 (bD (3 : Int) (4 : Int) b (min b.len (20 : Nat)))) &&
 winE
 ((twoL jnI
 ((bL (3 : Int) (4 : Int) a (min a.len (20 : Nat))).fst,
 (bL (3 : Int) (4 : Int) a (min a.len (20 : Nat))).snd)
 ((bL (3 : Int) (4 : Int) b (min b.len (20 : Nat))).fst,
 (bL (3 : Int) (4 : Int) b (min b.len (20 : Nat))).snd)
 (bD (3 : Int) (4 : Int) a (min a.len (20 : Nat)))
 (bD (3 : Int) (4 : Int) b (min b.len (20 : Nat)))).fst,
 (twoL jnI
 ((bL (3 : Int) (4 : Int) a (min a.len (20 : Nat))).fst,
 (bL (3 : Int) (4 : Int) a (min a.len (20 : Nat))).snd)
 ((bL (3 : Int) (4 : Int) b (min b.len (20 : Nat))).fst,
 (bL (3 : Int) (4 : Int) b (min b.len (20 : Nat))).snd)
 (bD (3 : Int) (4 : Int) a (min a.len (20 : Nat)))
 (bD (3 : Int) (4 : Int) b (min b.len (20 : Nat)))).snd)
 (twoD jnI (bD (3 : Int) (4 : Int) a (min a.len (20 : Nat)))
 (bD (3 : Int) (4 : Int) b (min b.len (20 : Nat))))
 ((twoL wdI
 ((bL (3 : Int) (4 : Int) a (min a.len (20 : Nat))).fst,
 (bL (3 : Int) (4 : Int) a (min a.len (20 : Nat))).snd)
 ((bL (3 : Int) (4 : Int) b (min b.len (20 : Nat))).fst,
 (bL (3 : Int) (4 : Int) b (min b.len (20 : Nat))).snd)
 (bD (3 : Int) (4 : Int) a (min a.len (20 : Nat)))
 (bD (3 : Int) (4 : Int) b (min b.len (20 : Nat)))).fst,
 (twoL wdI
 ((bL (3 : Int) (4 : Int) a (min a.len (20 : Nat))).fst,
 (bL (3 : Int) (4 : Int) a (min a.len (20 : Nat))).snd)
 ((bL (3 : Int) (4 : Int) b (min b.len (20 : Nat))).fst,
 (bL (3 : Int) (4 : Int) b (min b.len (20 : Nat))).snd)
 (bD (3 : Int) (4 : Int) a (min a.len (20 : Nat)))
 (bD (3 : Int) (4 : Int) b (min b.len (20 : Nat)))).snd)
 (twoD wdI (bD (3 : Int) (4 : Int) a (min a.len (20 : Nat)))
 (bD (3 : Int) (4 : Int) b (min b.len (20 : Nat)))) &&
 sameE
 ((twoL jnI
 ((bL (3 : Int) (4 : Int) a (min a.len (20 : Nat))).fst,
 (bL (3 : Int) (4 : Int) a (min a.len (20 : Nat))).snd)
 ((0 : Int), (0 : Int))
 (bD (3 : Int) (4 : Int) a (min a.len (20 : Nat)))
 (prD (Int.toNat (2 : Int)) fun (x : Nat) =>
 ((1 : Int), (0 : Int)))).fst,
 (twoL jnI
 ((bL (3 : Int) (4 : Int) a (min a.len (20 : Nat))).fst,
 (bL (3 : Int) (4 : Int) a (min a.len (20 : Nat))).snd)
 ((0 : Int), (0 : Int))
 (bD (3 : Int) (4 : Int) a (min a.len (20 : Nat)))
 (prD (Int.toNat (2 : Int)) fun (x : Nat) =>
 ((1 : Int), (0 : Int)))).snd)
 (prD
 (twoD jnI (bD (3 : Int) (4 : Int) a (min a.len (20 : Nat)))
 (prD (Int.toNat (2 : Int)) fun (x : Nat) =>
 ((1 : Int), (0 : Int)))).len
 (pr
 (twoD jnI (bD (3 : Int) (4 : Int) a (min a.len (20 : Nat)))
 (prD (Int.toNat (2 : Int)) fun (x : Nat) =>
 ((1 : Int), (0 : Int))))))
 ((bL (3 : Int) (4 : Int) a (min a.len (20 : Nat))).fst,
 (bL (3 : Int) (4 : Int) a (min a.len (20 : Nat))).snd)
 (bD (3 : Int) (4 : Int) a (min a.len (20 : Nat)))) =
 true ∧
 True →
 (prD
 (twoD wdI (bD (3 : Int) (4 : Int) a (min a.len (20 : Nat)))
 (prD (Int.toNat (2 : Int)) fun (x : Nat) =>
 ((1 : Int), (0 : Int)))).len
 (pr
 (twoD wdI (bD (3 : Int) (4 : Int) a (min a.len (20 : Nat)))
 (prD (Int.toNat (2 : Int)) fun (x : Nat) =>
 ((1 : Int), (0 : Int)))))).len ≤
 (8796093022208 : Nat)) ∧
 ((winE
 ((bL (3 : Int) (4 : Int) a (min a.len (20 : Nat))).fst,
 (bL (3 : Int) (4 : Int) a (min a.len (20 : Nat))).snd)
 (bD (3 : Int) (4 : Int) a (min a.len (20 : Nat)))
 ((bL (3 : Int) (4 : Int) b (min b.len (20 : Nat))).fst,
 (bL (3 : Int) (4 : Int) b (min b.len (20 : Nat))).snd)
 (bD (3 : Int) (4 : Int) b (min b.len (20 : Nat))) ==
 inQ (bL (3 : Int) (4 : Int) a (min a.len (20 : Nat)))
 (bD (3 : Int) (4 : Int) a (min a.len (20 : Nat)))
 (bL (3 : Int) (4 : Int) b (min b.len (20 : Nat)))
 (bD (3 : Int) (4 : Int) b (min b.len (20 : Nat))) i &&
 winE
 ((bL (3 : Int) (4 : Int) a (min a.len (20 : Nat))).fst,
 (bL (3 : Int) (4 : Int) a (min a.len (20 : Nat))).snd)
 (bD (3 : Int) (4 : Int) a (min a.len (20 : Nat)))
 ((twoL jnI
 ((bL (3 : Int) (4 : Int) a (min a.len (20 : Nat))).fst,
 (bL (3 : Int) (4 : Int) a (min a.len (20 : Nat))).snd)
 ((bL (3 : Int) (4 : Int) b (min b.len (20 : Nat))).fst,
 (bL (3 : Int) (4 : Int) b (min b.len (20 : Nat))).snd)
 (bD (3 : Int) (4 : Int) a (min a.len (20 : Nat)))
 (bD (3 : Int) (4 : Int) b (min b.len (20 : Nat)))).fst,
 (twoL jnI
 ((bL (3 : Int) (4 : Int) a (min a.len (20 : Nat))).fst,
 (bL (3 : Int) (4 : Int) a (min a.len (20 : Nat))).snd)
 ((bL (3 : Int) (4 : Int) b (min b.len (20 : Nat))).fst,
 (bL (3 : Int) (4 : Int) b (min b.len (20 : Nat))).snd)
 (bD (3 : Int) (4 : Int) a (min a.len (20 : Nat)))
 (bD (3 : Int) (4 : Int) b (min b.len (20 : Nat)))).snd)
 (twoD jnI (bD (3 : Int) (4 : Int) a (min a.len (20 : Nat)))
 (bD (3 : Int) (4 : Int) b (min b.len (20 : Nat)))) &&
 winE
 ((twoL jnI
 ((bL (3 : Int) (4 : Int) a (min a.len (20 : Nat))).fst,
 (bL (3 : Int) (4 : Int) a (min a.len (20 : Nat))).snd)
 ((bL (3 : Int) (4 : Int) b (min b.len (20 : Nat))).fst,
 (bL (3 : Int) (4 : Int) b (min b.len (20 : Nat))).snd)
 (bD (3 : Int) (4 : Int) a (min a.len (20 : Nat)))
 (bD (3 : Int) (4 : Int) b (min b.len (20 : Nat)))).fst,
 (twoL jnI
 ((bL (3 : Int) (4 : Int) a (min a.len (20 : Nat))).fst,
 (bL (3 : Int) (4 : Int) a (min a.len (20 : Nat))).snd)
 ((bL (3 : Int) (4 : Int) b (min b.len (20 : Nat))).fst,
 (bL (3 : Int) (4 : Int) b (min b.len (20 : Nat))).snd)
 (bD (3 : Int) (4 : Int) a (min a.len (20 : Nat)))
 (bD (3 : Int) (4 : Int) b (min b.len (20 : Nat)))).snd)
 (twoD jnI (bD (3 : Int) (4 : Int) a (min a.len (20 : Nat)))
 (bD (3 : Int) (4 : Int) b (min b.len (20 : Nat))))
 ((twoL wdI
 ((bL (3 : Int) (4 : Int) a (min a.len (20 : Nat))).fst,
 (bL (3 : Int) (4 : Int) a (min a.len (20 : Nat))).snd)
 ((bL (3 : Int) (4 : Int) b (min b.len (20 : Nat))).fst,
 (bL (3 : Int) (4 : Int) b (min b.len (20 : Nat))).snd)
 (bD (3 : Int) (4 : Int) a (min a.len (20 : Nat)))
 (bD (3 : Int) (4 : Int) b (min b.len (20 : Nat)))).fst,
 (twoL wdI
 ((bL (3 : Int) (4 : Int) a (min a.len (20 : Nat))).fst,
 (bL (3 : Int) (4 : Int) a (min a.len (20 : Nat))).snd)
 ((bL (3 : Int) (4 : Int) b (min b.len (20 : Nat))).fst,
 (bL (3 : Int) (4 : Int) b (min b.len (20 : Nat))).snd)
 (bD (3 : Int) (4 : Int) a (min a.len (20 : Nat)))
 (bD (3 : Int) (4 : Int) b (min b.len (20 : Nat)))).snd)
 (twoD wdI (bD (3 : Int) (4 : Int) a (min a.len (20 : Nat)))
 (bD (3 : Int) (4 : Int) b (min b.len (20 : Nat)))) &&
 sameE
 ((twoL jnI
 ((bL (3 : Int) (4 : Int) a (min a.len (20 : Nat))).fst,
 (bL (3 : Int) (4 : Int) a (min a.len (20 : Nat))).snd)
 ((0 : Int), (0 : Int))
 (bD (3 : Int) (4 : Int) a (min a.len (20 : Nat)))
 (prD (Int.toNat (2 : Int)) fun (x : Nat) =>
 ((1 : Int), (0 : Int)))).fst,
 (twoL jnI
 ((bL (3 : Int) (4 : Int) a (min a.len (20 : Nat))).fst,
 (bL (3 : Int) (4 : Int) a (min a.len (20 : Nat))).snd)
 ((0 : Int), (0 : Int))
 (bD (3 : Int) (4 : Int) a (min a.len (20 : Nat)))
 (prD (Int.toNat (2 : Int)) fun (x : Nat) =>
 ((1 : Int), (0 : Int)))).snd)
 (prD
 (twoD jnI (bD (3 : Int) (4 : Int) a (min a.len (20 : Nat)))
 (prD (Int.toNat (2 : Int)) fun (x : Nat) =>
 ((1 : Int), (0 : Int)))).len
 (pr
 (twoD jnI (bD (3 : Int) (4 : Int) a (min a.len (20 : Nat)))
 (prD (Int.toNat (2 : Int)) fun (x : Nat) =>
 ((1 : Int), (0 : Int))))))
 ((bL (3 : Int) (4 : Int) a (min a.len (20 : Nat))).fst,
 (bL (3 : Int) (4 : Int) a (min a.len (20 : Nat))).snd)
 (bD (3 : Int) (4 : Int) a (min a.len (20 : Nat))) &&
 sameE
 ((twoL wdI
 ((bL (3 : Int) (4 : Int) a (min a.len (20 : Nat))).fst,
 (bL (3 : Int) (4 : Int) a (min a.len (20 : Nat))).snd)
 ((0 : Int), (0 : Int))
 (bD (3 : Int) (4 : Int) a (min a.len (20 : Nat)))
 (prD (Int.toNat (2 : Int)) fun (x : Nat) =>
 ((1 : Int), (0 : Int)))).fst,
 (twoL wdI
 ((bL (3 : Int) (4 : Int) a (min a.len (20 : Nat))).fst,
 (bL (3 : Int) (4 : Int) a (min a.len (20 : Nat))).snd)
 ((0 : Int), (0 : Int))
 (bD (3 : Int) (4 : Int) a (min a.len (20 : Nat)))
 (prD (Int.toNat (2 : Int)) fun (x : Nat) =>
 ((1 : Int), (0 : Int)))).snd)
 (prD
 (twoD wdI (bD (3 : Int) (4 : Int) a (min a.len (20 : Nat)))
 (prD (Int.toNat (2 : Int)) fun (x : Nat) =>
 ((1 : Int), (0 : Int)))).len
 (pr
 (twoD wdI (bD (3 : Int) (4 : Int) a (min a.len (20 : Nat)))
 (prD (Int.toNat (2 : Int)) fun (x : Nat) =>
 ((1 : Int), (0 : Int))))))
 ((bL (3 : Int) (4 : Int) a (min a.len (20 : Nat))).fst,
 (bL (3 : Int) (4 : Int) a (min a.len (20 : Nat))).snd)
 (bD (3 : Int) (4 : Int) a (min a.len (20 : Nat)))) =
 true ∧
 True →
 (bD (3 : Int) (4 : Int) a (min a.len (20 : Nat))).len ≤ (8796093022208 : Nat)) ∧
 (winE
 ((bL (3 : Int) (4 : Int) a (min a.len (20 : Nat))).fst,
 (bL (3 : Int) (4 : Int) a (min a.len (20 : Nat))).snd)
 (bD (3 : Int) (4 : Int) a (min a.len (20 : Nat)))
 ((bL (3 : Int) (4 : Int) b (min b.len (20 : Nat))).fst,
 (bL (3 : Int) (4 : Int) b (min b.len (20 : Nat))).snd)
 (bD (3 : Int) (4 : Int) b (min b.len (20 : Nat))) ==
 inQ (bL (3 : Int) (4 : Int) a (min a.len (20 : Nat)))
 (bD (3 : Int) (4 : Int) a (min a.len (20 : Nat)))
 (bL (3 : Int) (4 : Int) b (min b.len (20 : Nat)))
 (bD (3 : Int) (4 : Int) b (min b.len (20 : Nat))) i &&
 winE
 ((bL (3 : Int) (4 : Int) a (min a.len (20 : Nat))).fst,
 (bL (3 : Int) (4 : Int) a (min a.len (20 : Nat))).snd)
 (bD (3 : Int) (4 : Int) a (min a.len (20 : Nat)))
 ((twoL jnI
 ((bL (3 : Int) (4 : Int) a (min a.len (20 : Nat))).fst,
 (bL (3 : Int) (4 : Int) a (min a.len (20 : Nat))).snd)
 ((bL (3 : Int) (4 : Int) b (min b.len (20 : Nat))).fst,
 (bL (3 : Int) (4 : Int) b (min b.len (20 : Nat))).snd)
 (bD (3 : Int) (4 : Int) a (min a.len (20 : Nat)))
 (bD (3 : Int) (4 : Int) b (min b.len (20 : Nat)))).fst,
 (twoL jnI
 ((bL (3 : Int) (4 : Int) a (min a.len (20 : Nat))).fst,
 (bL (3 : Int) (4 : Int) a (min a.len (20 : Nat))).snd)
 ((bL (3 : Int) (4 : Int) b (min b.len (20 : Nat))).fst,
 (bL (3 : Int) (4 : Int) b (min b.len (20 : Nat))).snd)
 (bD (3 : Int) (4 : Int) a (min a.len (20 : Nat)))
 (bD (3 : Int) (4 : Int) b (min b.len (20 : Nat)))).snd)
 (twoD jnI (bD (3 : Int) (4 : Int) a (min a.len (20 : Nat)))
 (bD (3 : Int) (4 : Int) b (min b.len (20 : Nat)))) &&
 winE
 ((twoL jnI
 ((bL (3 : Int) (4 : Int) a (min a.len (20 : Nat))).fst,
 (bL (3 : Int) (4 : Int) a (min a.len (20 : Nat))).snd)
 ((bL (3 : Int) (4 : Int) b (min b.len (20 : Nat))).fst,
 (bL (3 : Int) (4 : Int) b (min b.len (20 : Nat))).snd)
 (bD (3 : Int) (4 : Int) a (min a.len (20 : Nat)))
 (bD (3 : Int) (4 : Int) b (min b.len (20 : Nat)))).fst,
 (twoL jnI
 ((bL (3 : Int) (4 : Int) a (min a.len (20 : Nat))).fst,
 (bL (3 : Int) (4 : Int) a (min a.len (20 : Nat))).snd)
 ((bL (3 : Int) (4 : Int) b (min b.len (20 : Nat))).fst,
 (bL (3 : Int) (4 : Int) b (min b.len (20 : Nat))).snd)
 (bD (3 : Int) (4 : Int) a (min a.len (20 : Nat)))
 (bD (3 : Int) (4 : Int) b (min b.len (20 : Nat)))).snd)
 (twoD jnI (bD (3 : Int) (4 : Int) a (min a.len (20 : Nat)))
 (bD (3 : Int) (4 : Int) b (min b.len (20 : Nat))))
 ((twoL wdI
 ((bL (3 : Int) (4 : Int) a (min a.len (20 : Nat))).fst,
 (bL (3 : Int) (4 : Int) a (min a.len (20 : Nat))).snd)
 ((bL (3 : Int) (4 : Int) b (min b.len (20 : Nat))).fst,
 (bL (3 : Int) (4 : Int) b (min b.len (20 : Nat))).snd)
 (bD (3 : Int) (4 : Int) a (min a.len (20 : Nat)))
 (bD (3 : Int) (4 : Int) b (min b.len (20 : Nat)))).fst,
 (twoL wdI
 ((bL (3 : Int) (4 : Int) a (min a.len (20 : Nat))).fst,
 (bL (3 : Int) (4 : Int) a (min a.len (20 : Nat))).snd)
 ((bL (3 : Int) (4 : Int) b (min b.len (20 : Nat))).fst,
 (bL (3 : Int) (4 : Int) b (min b.len (20 : Nat))).snd)
 (bD (3 : Int) (4 : Int) a (min a.len (20 : Nat)))
 (bD (3 : Int) (4 : Int) b (min b.len (20 : Nat)))).snd)
 (twoD wdI (bD (3 : Int) (4 : Int) a (min a.len (20 : Nat)))
 (bD (3 : Int) (4 : Int) b (min b.len (20 : Nat)))) &&
 sameE
 ((twoL jnI
 ((bL (3 : Int) (4 : Int) a (min a.len (20 : Nat))).fst,
 (bL (3 : Int) (4 : Int) a (min a.len (20 : Nat))).snd)
 ((0 : Int), (0 : Int))
 (bD (3 : Int) (4 : Int) a (min a.len (20 : Nat)))
 (prD (Int.toNat (2 : Int)) fun (x : Nat) =>
 ((1 : Int), (0 : Int)))).fst,
 (twoL jnI
 ((bL (3 : Int) (4 : Int) a (min a.len (20 : Nat))).fst,
 (bL (3 : Int) (4 : Int) a (min a.len (20 : Nat))).snd)
 ((0 : Int), (0 : Int))
 (bD (3 : Int) (4 : Int) a (min a.len (20 : Nat)))
 (prD (Int.toNat (2 : Int)) fun (x : Nat) =>
 ((1 : Int), (0 : Int)))).snd)
 (prD
 (twoD jnI (bD (3 : Int) (4 : Int) a (min a.len (20 : Nat)))
 (prD (Int.toNat (2 : Int)) fun (x : Nat) =>
 ((1 : Int), (0 : Int)))).len
 (pr
 (twoD jnI (bD (3 : Int) (4 : Int) a (min a.len (20 : Nat)))
 (prD (Int.toNat (2 : Int)) fun (x : Nat) =>
 ((1 : Int), (0 : Int))))))
 ((bL (3 : Int) (4 : Int) a (min a.len (20 : Nat))).fst,
 (bL (3 : Int) (4 : Int) a (min a.len (20 : Nat))).snd)
 (bD (3 : Int) (4 : Int) a (min a.len (20 : Nat))) &&
 sameE
 ((twoL wdI
 ((bL (3 : Int) (4 : Int) a (min a.len (20 : Nat))).fst,
 (bL (3 : Int) (4 : Int) a (min a.len (20 : Nat))).snd)
 ((0 : Int), (0 : Int))
 (bD (3 : Int) (4 : Int) a (min a.len (20 : Nat)))
 (prD (Int.toNat (2 : Int)) fun (x : Nat) =>
 ((1 : Int), (0 : Int)))).fst,
 (twoL wdI
 ((bL (3 : Int) (4 : Int) a (min a.len (20 : Nat))).fst,
 (bL (3 : Int) (4 : Int) a (min a.len (20 : Nat))).snd)
 ((0 : Int), (0 : Int))
 (bD (3 : Int) (4 : Int) a (min a.len (20 : Nat)))
 (prD (Int.toNat (2 : Int)) fun (x : Nat) =>
 ((1 : Int), (0 : Int)))).snd)
 (prD
 (twoD wdI (bD (3 : Int) (4 : Int) a (min a.len (20 : Nat)))
 (prD (Int.toNat (2 : Int)) fun (x : Nat) =>
 ((1 : Int), (0 : Int)))).len
 (pr
 (twoD wdI (bD (3 : Int) (4 : Int) a (min a.len (20 : Nat)))
 (prD (Int.toNat (2 : Int)) fun (x : Nat) =>
 ((1 : Int), (0 : Int))))))
 ((bL (3 : Int) (4 : Int) a (min a.len (20 : Nat))).fst,
 (bL (3 : Int) (4 : Int) a (min a.len (20 : Nat))).snd)
 (bD (3 : Int) (4 : Int) a (min a.len (20 : Nat))) &&
 !winE
 ((bL (3 : Int) (4 : Int) a (min a.len (20 : Nat))).fst,
 (bL (3 : Int) (4 : Int) a (min a.len (20 : Nat))).snd)
 (bD (3 : Int) (4 : Int) a (min a.len (20 : Nat)))
 ((0 : Int), (0 : Int))
 (prD (Int.toNat (2 : Int)) fun (x : Nat) => ((1 : Int), (0 : Int)))) =
 true)))) (by kernel_rfl) ?_
    simp only [Int.toNat_natCast]
    have hX := b_good (tags := 3) (size := 4) (by decide) (by decide) a (min a.len 20)
    have hY := b_good (tags := 3) (size := 4) (by decide) (by decide) b (min b.len 20)
    generalize bL 3 4 a (min a.len 20) = xl at *
    generalize bD 3 4 a (min a.len 20) = X at *
    generalize bL 3 4 b (min b.len 20) = yl at *
    generalize bD 3 4 b (min b.len 20) = Y at *
    obtain ⟨xl0, xl1⟩ := xl
    obtain ⟨yl0, yl1⟩ := yl
    dsimp only at hX hY ⊢
    refine ⟨⟨by omega, by omega⟩, ⟨by omega, by omega⟩, ⟨by omega, by omega⟩, ⟨by omega, by omega⟩, ⟨0, Nat.zero_le _, rfl, ?_⟩, fun i hi => ⟨fun x => ?_, fun x => ?_⟩⟩
    · (repeat' apply And.intro) <;> first | rfl | trivial
    · have x : (i : Int) < q.len ∧ (i : Int) < 20 := by simpa using x
      refine ⟨by omega, by omega, ?_, ?_, Nat.le_refl 1, i + 1, (show i + 1 ≤ min q.len 20 by omega), by omega, wr _ (by omega), ?_⟩
      · show i = ((List.range i).map _).length; simp
      · show (i + 1) * 16 ≤ _; omega
      (repeat' apply And.intro) <;> first | rfl | trivial | exact mgD_app q i
    · have x : ¬ ((i : Int) < q.len ∧ (i : Int) < 20) := by simpa using x
      have e : i = min q.len 20 := by have : i ≤ min q.len 20 := hi; omega
      have hiq : i ≤ q.len := by omega
      have hi20 : i ≤ 20 := by omega
      clear hi e
      have h3 : Int.toNat 3 = 3 := rfl
      rw [h3] at hX hY
      obtain ⟨X1, X2, X3, X4, X5⟩ := hX
      obtain ⟨Y1, Y2, Y3, Y4, Y5⟩ := hY
      have hl : X.len = Y.len := X1.trans Y1.symm
      have nx : Nm (xl0, xl1) := .inr (by dsimp only; omega)
      have ny : Nm (yl0, yl1) := .inr (by dsimp only; omega)
      have s1 := two_same (f := jnI) (g := rf false) (x := (xl0, xl1)) (y := (yl0, yl1)) hl (jn_eq nx ny).symm fun j hj => (jn_eq (X2 j (by omega)) (Y2 j (by omega))).symm
      have s2 := two_same (f := wdI) (g := rf true) (x := (xl0, xl1)) (y := (yl0, yl1)) hl (wd_nm nx ny).1.symm fun j hj => (wd_nm (X2 j (by omega)) (Y2 j (by omega))).1.symm
      have s3 := mg_has (l := xl0) (h := xl1) (X := X) hiq
      have s4 : (twoD jnI X Y).len = 3 := by unfold twoD; rw [if_pos hl, prD_len, X1]
      have s5 : (twoD wdI X Y).len = 3 := by unfold twoD; rw [if_pos hl, prD_len, X1]
      simp only [s1, s2, s3]
      simp only [s4, s5, X1, Y1, prD_len, beq_self_eq_true, Bool.not_true, Bool.or_self, Bool.false_eq_true, true_and, and_true, forall_const, false_implies]
      have hm : (mgD q i).len = i := by show ((List.range i).map _).length = i; simp
      have hO : (prD (Int.toNat 2) fun _ => ((1 : Int), (0 : Int))).len = 2 := prD_len _ _
      have w1 := winE_in (x := (xl0, xl1)) (y := (yl0, yl1)) (X := X) (Y := Y) hl ⟨X4, X3⟩
      rw [X1] at w1
      have dj : ∀ {f : Int × Int → Int × Int → Int × Int} {j : Nat}, j < 3 → pr (twoD f X Y) j = f (pr X j) (pr Y j) := fun hj => by
        unfold twoD
        rw [if_pos hl, prD_el (by omega)]
      have lj : ∀ {f : Int × Int → Int × Int → Int × Int}, twoL f (xl0, xl1) (yl0, yl1) X Y = f (xl0, xl1) (yl0, yl1) := if_pos hl
      have w2 : winE (xl0, xl1) X ((twoL jnI (xl0, xl1) (yl0, yl1) X Y).fst, (twoL jnI (xl0, xl1) (yl0, yl1) X Y).snd) (twoD jnI X Y) = true := by
        refine winE_all (X1.trans s4.symm) (by rw [lj]; exact win_jn nx ny) fun j hj => ?_
        rw [dj (by omega)]
        exact win_jn (X2 j (by omega)) (Y2 j (by omega))
      have w3 : winE ((twoL jnI (xl0, xl1) (yl0, yl1) X Y).fst, (twoL jnI (xl0, xl1) (yl0, yl1) X Y).snd) (twoD jnI X Y) ((twoL wdI (xl0, xl1) (yl0, yl1) X Y).fst, (twoL wdI (xl0, xl1) (yl0, yl1) X Y).snd) (twoD wdI X Y) = true := by
        refine winE_all (s4.trans s5.symm) (by rw [lj, lj]; exact win_wd nx ny) fun j hj => ?_
        rw [dj (by omega), dj (by omega)]
        exact win_wd (X2 j (by omega)) (Y2 j (by omega))
      have o1 : ∀ f, twoL f (xl0, xl1) (0, 0) X (prD (Int.toNat 2) fun _ => (1, 0)) = (xl0, xl1) := fun f => if_neg (by rw [hO]; omega)
      have o2 : ∀ f, twoD f X (prD (Int.toNat 2) fun _ => (1, 0)) = X := fun f => if_neg (by rw [hO]; omega)
      have o3 : sameE (xl0, xl1) (prD 3 (pr X)) (xl0, xl1) X = true := by have := same_pr (xl0, xl1) X; rw [X1] at this; exact this
      have o4 : winE (xl0, xl1) X (0, 0) (prD (Int.toNat 2) fun _ => (1, 0)) = false := if_neg (by rw [hO]; omega)
      simp only [w1, w2, w3, o1, o2, o3, o4, X1]
      refine ⟨by omega, by omega, by omega, by omega, by omega, by omega, by omega, by omega, by omega, ?_, by omega, by omega, ?_, by omega, ⟨0, Nat.zero_le _, rfl, ?_⟩, fun k hk => ⟨fun y => ?_, fun y => ?_⟩⟩
      · rw [sub_len (by omega)]; omega
      · rw [sub_len hiq]; omega
      · unfold inQ allQ; simp
      · have y : (k : Int) < 3 := by simpa using y
        refine ⟨fun _ => by omega, fun _ => by omega, fun _ => by omega, fun _ => by omega, fun _ => by omega, fun _ => by omega, k + 1, (show k + 1 ≤ 3 by omega), by omega, wr _ (by omega), inQ_up k⟩
      · have y : ¬ (k : Int) < 3 := by simpa using y
        have e : k = 3 := by have : k ≤ 3 := hk; omega
        subst e
        simp only [beq_self_eq_true, Bool.and_self, Bool.not_false]
        (repeat' first | apply And.intro | intro _) <;> first | trivial | rfl | omega
  · trivial
end Go.Proofs.Ytbcbcambkjhhhaa.Sx.Z
