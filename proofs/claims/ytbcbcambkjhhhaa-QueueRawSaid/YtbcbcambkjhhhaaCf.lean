/-
  A row of sends: build.
-/
import Derived.Test.YtbcbcambkjhhhaaCe
namespace Go.Proofs.Ytbcbcambkjhhhaa.Sx.Z
open Go.RowKit
def putI (r : D) (j : Nat) : Int × Int := nrm (bendI (r.el j 1).toI, bendI (r.el j 2).toI)
def bS (tags size : Int) (r : D) : Nat → (Int × Int) × D
  | 0 => ((0, 0), prD tags.toNat fun _ => (1, 0))
  | k + 1 => (sndL size tags (bS tags size r k).1 (bS tags size r k).2 (r.el k 0).toI (putI r k), sndD tags (bS tags size r k).2 (r.el k 0).toI (putI r k))
def bL (tags size : Int) (r : D) (k : Nat) : Int × Int := (bS tags size r k).1
def bD (tags size : Int) (r : D) (k : Nat) : D := (bS tags size r k).2
theorem putI_nm (r : D) (j : Nat) : Nm (putI r j) := by
  unfold putI nrm
  have h1 := bendI_in (r.el j 1).toI
  have h2 := bendI_in (r.el j 2).toI
  split
  · exact .inl rfl
  · rename_i h
    exact .inr ⟨h1.1, by simpa using h, h2.2⟩
theorem pr_setR {d : D} {k j : Nat} {p : Int × Int} (hk : k < d.len) : pr (setR d k p) j = if j = k then p else pr d j := by
  have e : (setR d k p).rows.getD j [] = if j = k then cl p else d.rows.getD j [] := by
    show (d.rows.set k (cl p)).getD j [] = _
    rw [List.getD_eq_getElem?_getD, List.getD_eq_getElem?_getD, List.getElem?_set]
    by_cases h : k = j
    · subst h; rw [if_pos rfl, if_pos rfl, if_pos (show k < d.rows.length from hk)]; rfl
    · rw [if_neg h, if_neg (fun e => h e.symm)]
  unfold pr D.el
  rw [e]
  split <;> rfl
theorem b_good {tags size : Int} (_ht : 1 ≤ tags ∧ tags ≤ 4) (hs : 1 ≤ size ∧ size ≤ 100) (r : D) (k : Nat) : (bD tags size r k).len = tags.toNat ∧ (∀ j, j < tags.toNat → Nm (pr (bD tags size r k) j)) ∧ (bL tags size r k).1 = 0 ∧ 0 ≤ (bL tags size r k).2 ∧ (bL tags size r k).2 ≤ size := by
  induction k with
  | zero => exact ⟨prD_len _ _, fun j hj => .inl (prD_el hj _), rfl, Int.le_refl 0, show (0 : Int) ≤ size by omega⟩
  | succ k ih =>
    obtain ⟨i1, i2, i3, i4, i5⟩ := ih
    show (sndD tags (bD tags size r k) (r.el k 0).toI (putI r k)).len = _ ∧ (∀ j, _ → Nm (pr (sndD tags (bD tags size r k) (r.el k 0).toI (putI r k)) j)) ∧ (sndL size tags (bL tags size r k) (bD tags size r k) (r.el k 0).toI (putI r k)).1 = 0 ∧ 0 ≤ (sndL size tags (bL tags size r k) (bD tags size r k) (r.el k 0).toI (putI r k)).2 ∧ (sndL size tags (bL tags size r k) (bD tags size r k) (r.el k 0).toI (putI r k)).2 ≤ size
    unfold sndD sndL
    by_cases h : sndB tags (bD tags size r k) (r.el k 0).toI (putI r k) = true
    · rw [if_pos h, if_pos h]
      have hk : (r.el k 0).toI.toNat < (bD tags size r k).len := by
        unfold sndB at h
        simp only [Bool.and_eq_true, decide_eq_true_eq] at h
        omega
      refine ⟨(setR_len _ _ _).trans i1, fun j hj => ?_, ?_⟩
      · rw [pr_setR hk]
        split
        · exact nm_jn
        · exact i2 j hj
      · have e : (if (bL tags size r k).2 < size then IntKind.i64.wrap ((bL tags size r k).2 + 1) else size) = if (bL tags size r k).2 < size then (bL tags size r k).2 + 1 else size := by rw [wr _ (by omega)]
        rw [e]
        have hv : ∃ v, (if (bL tags size r k).2 < size then (bL tags size r k).2 + 1 else size) = v ∧ 0 ≤ v ∧ v ≤ size := ⟨_, rfl, by split <;> omega, by split <;> omega⟩
        obtain ⟨v, e1, v1, v2⟩ := hv
        rw [e1]
        rcases ofI_cases 0 v with ⟨c, _⟩ | ⟨_, e2⟩
        · exfalso; omega
        · rw [e2]; dsimp only; omega
    · rw [if_neg h, if_neg h]
      exact ⟨i1, i2, i3, i4, i5⟩
theorem b_like {tags size : Int} (ht : 1 ≤ tags ∧ tags ≤ 4) (hs : 1 ≤ size ∧ size ≤ 100) (r : D) (k : Nat) : rsndL size (bL tags size r k) (bD tags size r k) (r.el k 0).toI (putI r k) = bL tags size r (k + 1) ∧ rsndD (bD tags size r k) (r.el k 0).toI (putI r k) = bD tags size r (k + 1) := by
  obtain ⟨i1, i2, i3, i4, i5⟩ := b_good ht hs r k
  show _ = sndL size tags (bL tags size r k) (bD tags size r k) (r.el k 0).toI (putI r k) ∧ _ = sndD tags (bD tags size r k) (r.el k 0).toI (putI r k)
  have eb : rsndB (bD tags size r k) (r.el k 0).toI (putI r k) = sndB tags (bD tags size r k) (r.el k 0).toI (putI r k) := by
    unfold rsndB sndB
    rw [Bool.eq_iff_iff]
    simp only [Bool.and_eq_true, Bool.not_eq_true', decide_eq_false_iff_not, decide_eq_true_eq]
    omega
  unfold rsndL rsndD sndL sndD
  rw [eb]
  by_cases h : sndB tags (bD tags size r k) (r.el k 0).toI (putI r k) = true
  · rw [if_pos h, if_pos h, if_pos h, if_pos h]
    have hk : (r.el k 0).toI.toNat < tags.toNat := by
      unfold sndB at h
      simp only [Bool.and_eq_true, decide_eq_true_eq] at h
      omega
    rw [jn_eq (i2 _ hk) (putI_nm r k)]
    refine ⟨?_, rfl⟩
    have e : (if (bL tags size r k).2 < size then IntKind.i64.wrap ((bL tags size r k).2 + 1) else size) = min (IntKind.i64.wrap ((bL tags size r k).2 + 1)) size := by rw [wr _ (by omega)]; split <;> omega
    rw [e]
    rcases ofI_cases 0 (min (IntKind.i64.wrap ((bL tags size r k).2 + 1)) size) with ⟨c, _⟩ | ⟨_, e2⟩
    · exfalso; rw [wr _ (by omega)] at c; omega
    · rw [e2]
      rw [wr _ (by omega)]
      ext <;> dsimp only <;> omega
  · rw [if_neg h, if_neg h, if_neg h, if_neg h]
    exact ⟨rfl, rfl⟩
theorem same_pr (a : Int × Int) (d : D) : sameE a (prD d.len (pr d)) a d = true := by
  unfold sameE
  rw [decide_eq_true (rfl : a = a), decide_eq_true (prD_len d.len (pr d)), prD_len, allQ_iff.2 fun j hj => decide_eq_true (prD_el hj _)]; rfl
noncomputable def qbuildS : FSpec := fun ds _ => match ds with
  | [.i tags, .i size, .d r] => some { val := .tup [.agg [.c (.int .i64 (.sym ((bL tags size r (min r.len 20)).1))), .c (.int .i64 (.sym ((bL tags size r (min r.len 20)).2))), .c (.rows 48 (bD tags size r (min r.len 20)))], .agg [.c (.int .i64 (.sym ((bL tags size r (min r.len 20)).1))), .c (.int .i64 (.sym ((bL tags size r (min r.len 20)).2))), .c (.rows 52 (bD tags size r (min r.len 20)))], .sc (.bool (.lit true))], vc := [1 ≤ tags ∧ tags ≤ 4, 1 ≤ size ∧ size ≤ 100] }
  | _ => none
noncomputable def qbuildC : Con := con [iA, iA, .sc (.rows 149)] qbuildS
theorem qbuild_ok : ConOK Try.prog 21 qbuildC := by
  refine fn_ob tt_ok mixed Try.func21 rfl (fun _ _ => by kernel_rfl) (A := fun ds => ⟨fun _ => Cons.of [(30, qnoneC), (64, rnoneC), (66, bend8C), (65, norm8C), (26, lfromC), (33, qsendC), (67, rsendC), (25, rsameC)], fun k => match k, ds with | 4, [.i tags, .i size, .d r] => some { ι := Nat, pre := fun _ k => k ≤ min r.len 20, μ := fun k => min r.len 20 + 1 - k, st := fun s k => famR s [(12, .one (.sc (.int .i64 (.sym ((k : Nat))))))] [0, 1, 2, 6, 7, 8, 9, 10, 11] [(idOf s 10, .own 51 ([.c (.int .i64 (.sym ((bL tags size r (k)).1))), .c (.int .i64 (.sym ((bL tags size r (k)).2))), .c (.rows 48 (bD tags size r (k)))])), (idOf s 11, .own 55 ([.c (.int .i64 (.sym ((bL tags size r (k)).1))), .c (.int .i64 (.sym ((bL tags size r (k)).2))), .c (.rows 52 (bD tags size r (k)))]))] [6, 7, 9] } | _, _ => none, fun _ => none⟩) (fun _ _ => (cons_cons qnone_ok (cons_cons rnone_ok (cons_cons bend8_ok (cons_cons norm8_ok (cons_cons lfrom_ok (cons_cons qsend_ok (cons_cons rsend_ok (cons_cons rsame_ok cons_nil))))))))) (by kernel_rfl) ?_
  intro ds fr
  unfold qbuildS
  split
  · rename_i tags size r
    refine kmp (q := (1 : Int) ≤ tags ∧ tags ≤ (4 : Int) →
 (1 : Int) ≤ size ∧ size ≤ (100 : Int) →
 ((1 : Int) ≤ tags ∧ tags ≤ (4 : Int)) ∧
 ((0 : Int) ≤ tags ∧ tags ≤ (8796093022208 : Int)) ∧
 (∃ (i : Nat),
 i.le (min r.len (20 : Nat)) ∧
 (0 : Int) = (↑i : Int) ∧
 tags = tags ∧
 size = size ∧
 r.rows = r.rows ∧
 false = false ∧
 (0 : Int) = (bL tags size r i).fst ∧
 (0 : Int) = (bL tags size r i).snd ∧
 List.map (fun (j : Nat) => cl ((1 : Int), (0 : Int))) (List.range tags.toNat) = (bD tags size r i).rows ∧
 (0 : Int) = (bL tags size r i).fst ∧
 (0 : Int) = (bL tags size r i).snd ∧
 List.map (fun (j : Nat) => cl ((1 : Int), (0 : Int))) (List.range tags.toNat) = (bD tags size r i).rows ∧
 (0 : Int) = (0 : Int) ∧
 (0 : Int) = (0 : Int) ∧
 (0 : Int) = (0 : Int) ∧
 (0 : Int) = (0 : Int) ∧
 (0 : Int) = (0 : Int) ∧ size = size ∧ (0 : Int) = (0 : Int) ∧ (1 : Int) = (1 : Int) ∧ tags = tags) ∧
 ∀ (i : Nat),
 i.le (min r.len (20 : Nat)) →
 ((decide ((↑i : Int) < (↑r.len : Int)) && decide ((↑i : Int) < (20 : Int))) = true →
 ((0 : Int) ≤ (↑i : Int) ∧ (↑i : Int) < (↑r.len : Int)) ∧
 (bD tags size r i).len ≤ (8796093022208 : Nat) ∧
 ((0 : Int) ≤ (↑i : Int) ∧ (↑i : Int) < (↑r.len : Int)) ∧
 (bD tags size r i).len ≤ (8796093022208 : Nat) ∧
 ((0 : Int) ≤ (↑i : Int) ∧ (↑i : Int) < (↑r.len : Int)) ∧
 (bD tags size r i).len ≤ (8796093022208 : Nat) ∧
 (bD tags size r i).len ≤ (8796093022208 : Nat) ∧
 (prD (bD tags size r i).len (pr (bD tags size r i))).len ≤ (8796093022208 : Nat) ∧
 ((!sameE ((bL tags size r i).fst, (bL tags size r i).snd) (prD (bD tags size r i).len (pr (bD tags size r i)))
 ((bL tags size r i).fst, (bL tags size r i).snd) (prD (bD tags size r i).len (pr (bD tags size r i)))) =
 true →
 (bL tags size r i).fst = (bL tags size r (min r.len (20 : Nat))).fst ∧
 (bL tags size r i).snd = (bL tags size r (min r.len (20 : Nat))).snd ∧
 (bD tags size r i).rows = (bD tags size r (min r.len (20 : Nat))).rows ∧
 (rsndL size ((bL tags size r i).fst, (bL tags size r i).snd) (bD tags size r i)
 (r.el (↑i : Int).toNat ((0 : Nat) + (0 : Nat))).toI
 ((nrm
 (bendI (r.el (↑i : Int).toNat ((0 : Nat) + (1 : Nat))).toI,
 bendI (r.el (↑i : Int).toNat ((0 : Nat) + (1 : Nat) + (1 : Nat))).toI)).fst,
 (nrm
 (bendI (r.el (↑i : Int).toNat ((0 : Nat) + (1 : Nat))).toI,
 bendI (r.el (↑i : Int).toNat ((0 : Nat) + (1 : Nat) + (1 : Nat))).toI)).snd)).fst =
 (bL tags size r (min r.len (20 : Nat))).fst ∧
 (rsndL size ((bL tags size r i).fst, (bL tags size r i).snd) (bD tags size r i)
 (r.el (↑i : Int).toNat ((0 : Nat) + (0 : Nat))).toI
 ((nrm
 (bendI (r.el (↑i : Int).toNat ((0 : Nat) + (1 : Nat))).toI,
 bendI (r.el (↑i : Int).toNat ((0 : Nat) + (1 : Nat) + (1 : Nat))).toI)).fst,
 (nrm
 (bendI (r.el (↑i : Int).toNat ((0 : Nat) + (1 : Nat))).toI,
 bendI (r.el (↑i : Int).toNat ((0 : Nat) + (1 : Nat) + (1 : Nat))).toI)).snd)).snd =
 (bL tags size r (min r.len (20 : Nat))).snd ∧
 (rsndD (bD tags size r i) (r.el (↑i : Int).toNat ((0 : Nat) + (0 : Nat))).toI
 ((nrm
 (bendI (r.el (↑i : Int).toNat ((0 : Nat) + (1 : Nat))).toI,
 bendI (r.el (↑i : Int).toNat ((0 : Nat) + (1 : Nat) + (1 : Nat))).toI)).fst,
 (nrm
 (bendI (r.el (↑i : Int).toNat ((0 : Nat) + (1 : Nat))).toI,
 bendI (r.el (↑i : Int).toNat ((0 : Nat) + (1 : Nat) + (1 : Nat))).toI)).snd)).rows =
 (bD tags size r (min r.len (20 : Nat))).rows ∧
 false = true) ∧
 ((!sameE ((bL tags size r i).fst, (bL tags size r i).snd) (prD (bD tags size r i).len (pr (bD tags size r i)))
 ((bL tags size r i).fst, (bL tags size r i).snd) (prD (bD tags size r i).len (pr (bD tags size r i)))) =
 false →
 (sndD tags (bD tags size r i) (r.el (↑i : Int).toNat ((0 : Nat) + (0 : Nat))).toI
 ((nrm
 (bendI (r.el (↑i : Int).toNat ((0 : Nat) + (1 : Nat))).toI,
 bendI (r.el (↑i : Int).toNat ((0 : Nat) + (1 : Nat) + (1 : Nat))).toI)).fst,
 (nrm
 (bendI (r.el (↑i : Int).toNat ((0 : Nat) + (1 : Nat))).toI,
 bendI (r.el (↑i : Int).toNat ((0 : Nat) + (1 : Nat) + (1 : Nat))).toI)).snd)).len ≤
 (8796093022208 : Nat) ∧
 (prD
 (sndD tags (bD tags size r i) (r.el (↑i : Int).toNat ((0 : Nat) + (0 : Nat))).toI
 ((nrm
 (bendI (r.el (↑i : Int).toNat ((0 : Nat) + (1 : Nat))).toI,
 bendI (r.el (↑i : Int).toNat ((0 : Nat) + (1 : Nat) + (1 : Nat))).toI)).fst,
 (nrm
 (bendI (r.el (↑i : Int).toNat ((0 : Nat) + (1 : Nat))).toI,
 bendI (r.el (↑i : Int).toNat ((0 : Nat) + (1 : Nat) + (1 : Nat))).toI)).snd)).len
 (pr
 (sndD tags (bD tags size r i) (r.el (↑i : Int).toNat ((0 : Nat) + (0 : Nat))).toI
 ((nrm
 (bendI (r.el (↑i : Int).toNat ((0 : Nat) + (1 : Nat))).toI,
 bendI (r.el (↑i : Int).toNat ((0 : Nat) + (1 : Nat) + (1 : Nat))).toI)).fst,
 (nrm
 (bendI (r.el (↑i : Int).toNat ((0 : Nat) + (1 : Nat))).toI,
 bendI (r.el (↑i : Int).toNat ((0 : Nat) + (1 : Nat) + (1 : Nat))).toI)).snd)))).len ≤
 (8796093022208 : Nat) ∧
 ((!sameE
 ((sndL size tags ((bL tags size r i).fst, (bL tags size r i).snd) (bD tags size r i)
 (r.el (↑i : Int).toNat ((0 : Nat) + (0 : Nat))).toI
 ((nrm
 (bendI (r.el (↑i : Int).toNat ((0 : Nat) + (1 : Nat))).toI,
 bendI (r.el (↑i : Int).toNat ((0 : Nat) + (1 : Nat) + (1 : Nat))).toI)).fst,
 (nrm
 (bendI (r.el (↑i : Int).toNat ((0 : Nat) + (1 : Nat))).toI,
 bendI (r.el (↑i : Int).toNat ((0 : Nat) + (1 : Nat) + (1 : Nat))).toI)).snd)).fst,
 (sndL size tags ((bL tags size r i).fst, (bL tags size r i).snd) (bD tags size r i)
 (r.el (↑i : Int).toNat ((0 : Nat) + (0 : Nat))).toI
 ((nrm
 (bendI (r.el (↑i : Int).toNat ((0 : Nat) + (1 : Nat))).toI,
 bendI (r.el (↑i : Int).toNat ((0 : Nat) + (1 : Nat) + (1 : Nat))).toI)).fst,
 (nrm
 (bendI (r.el (↑i : Int).toNat ((0 : Nat) + (1 : Nat))).toI,
 bendI (r.el (↑i : Int).toNat ((0 : Nat) + (1 : Nat) + (1 : Nat))).toI)).snd)).snd)
 (prD
 (sndD tags (bD tags size r i) (r.el (↑i : Int).toNat ((0 : Nat) + (0 : Nat))).toI
 ((nrm
 (bendI (r.el (↑i : Int).toNat ((0 : Nat) + (1 : Nat))).toI,
 bendI (r.el (↑i : Int).toNat ((0 : Nat) + (1 : Nat) + (1 : Nat))).toI)).fst,
 (nrm
 (bendI (r.el (↑i : Int).toNat ((0 : Nat) + (1 : Nat))).toI,
 bendI (r.el (↑i : Int).toNat ((0 : Nat) + (1 : Nat) + (1 : Nat))).toI)).snd)).len
 (pr
 (sndD tags (bD tags size r i) (r.el (↑i : Int).toNat ((0 : Nat) + (0 : Nat))).toI
 ((nrm
 (bendI (r.el (↑i : Int).toNat ((0 : Nat) + (1 : Nat))).toI,
 bendI (r.el (↑i : Int).toNat ((0 : Nat) + (1 : Nat) + (1 : Nat))).toI)).fst,
 (nrm
 (bendI (r.el (↑i : Int).toNat ((0 : Nat) + (1 : Nat))).toI,
 bendI (r.el (↑i : Int).toNat ((0 : Nat) + (1 : Nat) + (1 : Nat))).toI)).snd))))
 ((rsndL size ((bL tags size r i).fst, (bL tags size r i).snd) (bD tags size r i)
 (r.el (↑i : Int).toNat ((0 : Nat) + (0 : Nat))).toI
 ((nrm
 (bendI (r.el (↑i : Int).toNat ((0 : Nat) + (1 : Nat))).toI,
 bendI (r.el (↑i : Int).toNat ((0 : Nat) + (1 : Nat) + (1 : Nat))).toI)).fst,
 (nrm
 (bendI (r.el (↑i : Int).toNat ((0 : Nat) + (1 : Nat))).toI,
 bendI (r.el (↑i : Int).toNat ((0 : Nat) + (1 : Nat) + (1 : Nat))).toI)).snd)).fst,
 (rsndL size ((bL tags size r i).fst, (bL tags size r i).snd) (bD tags size r i)
 (r.el (↑i : Int).toNat ((0 : Nat) + (0 : Nat))).toI
 ((nrm
 (bendI (r.el (↑i : Int).toNat ((0 : Nat) + (1 : Nat))).toI,
 bendI (r.el (↑i : Int).toNat ((0 : Nat) + (1 : Nat) + (1 : Nat))).toI)).fst,
 (nrm
 (bendI (r.el (↑i : Int).toNat ((0 : Nat) + (1 : Nat))).toI,
 bendI (r.el (↑i : Int).toNat ((0 : Nat) + (1 : Nat) + (1 : Nat))).toI)).snd)).snd)
 (rsndD (bD tags size r i) (r.el (↑i : Int).toNat ((0 : Nat) + (0 : Nat))).toI
 ((nrm
 (bendI (r.el (↑i : Int).toNat ((0 : Nat) + (1 : Nat))).toI,
 bendI (r.el (↑i : Int).toNat ((0 : Nat) + (1 : Nat) + (1 : Nat))).toI)).fst,
 (nrm
 (bendI (r.el (↑i : Int).toNat ((0 : Nat) + (1 : Nat))).toI,
 bendI (r.el (↑i : Int).toNat ((0 : Nat) + (1 : Nat) + (1 : Nat))).toI)).snd))) =
 true →
 (sndL size tags ((bL tags size r i).fst, (bL tags size r i).snd) (bD tags size r i)
 (r.el (↑i : Int).toNat ((0 : Nat) + (0 : Nat))).toI
 ((nrm
 (bendI (r.el (↑i : Int).toNat ((0 : Nat) + (1 : Nat))).toI,
 bendI (r.el (↑i : Int).toNat ((0 : Nat) + (1 : Nat) + (1 : Nat))).toI)).fst,
 (nrm
 (bendI (r.el (↑i : Int).toNat ((0 : Nat) + (1 : Nat))).toI,
 bendI (r.el (↑i : Int).toNat ((0 : Nat) + (1 : Nat) + (1 : Nat))).toI)).snd)).fst =
 (bL tags size r (min r.len (20 : Nat))).fst ∧
 (sndL size tags ((bL tags size r i).fst, (bL tags size r i).snd) (bD tags size r i)
 (r.el (↑i : Int).toNat ((0 : Nat) + (0 : Nat))).toI
 ((nrm
 (bendI (r.el (↑i : Int).toNat ((0 : Nat) + (1 : Nat))).toI,
 bendI (r.el (↑i : Int).toNat ((0 : Nat) + (1 : Nat) + (1 : Nat))).toI)).fst,
 (nrm
 (bendI (r.el (↑i : Int).toNat ((0 : Nat) + (1 : Nat))).toI,
 bendI (r.el (↑i : Int).toNat ((0 : Nat) + (1 : Nat) + (1 : Nat))).toI)).snd)).snd =
 (bL tags size r (min r.len (20 : Nat))).snd ∧
 (sndD tags (bD tags size r i) (r.el (↑i : Int).toNat ((0 : Nat) + (0 : Nat))).toI
 ((nrm
 (bendI (r.el (↑i : Int).toNat ((0 : Nat) + (1 : Nat))).toI,
 bendI (r.el (↑i : Int).toNat ((0 : Nat) + (1 : Nat) + (1 : Nat))).toI)).fst,
 (nrm
 (bendI (r.el (↑i : Int).toNat ((0 : Nat) + (1 : Nat))).toI,
 bendI (r.el (↑i : Int).toNat ((0 : Nat) + (1 : Nat) + (1 : Nat))).toI)).snd)).rows =
 (bD tags size r (min r.len (20 : Nat))).rows ∧
 (rsndL size ((bL tags size r i).fst, (bL tags size r i).snd) (bD tags size r i)
 (r.el (↑i : Int).toNat ((0 : Nat) + (0 : Nat))).toI
 ((nrm
 (bendI (r.el (↑i : Int).toNat ((0 : Nat) + (1 : Nat))).toI,
 bendI (r.el (↑i : Int).toNat ((0 : Nat) + (1 : Nat) + (1 : Nat))).toI)).fst,
 (nrm
 (bendI (r.el (↑i : Int).toNat ((0 : Nat) + (1 : Nat))).toI,
 bendI (r.el (↑i : Int).toNat ((0 : Nat) + (1 : Nat) + (1 : Nat))).toI)).snd)).fst =
 (bL tags size r (min r.len (20 : Nat))).fst ∧
 (rsndL size ((bL tags size r i).fst, (bL tags size r i).snd) (bD tags size r i)
 (r.el (↑i : Int).toNat ((0 : Nat) + (0 : Nat))).toI
 ((nrm
 (bendI (r.el (↑i : Int).toNat ((0 : Nat) + (1 : Nat))).toI,
 bendI (r.el (↑i : Int).toNat ((0 : Nat) + (1 : Nat) + (1 : Nat))).toI)).fst,
 (nrm
 (bendI (r.el (↑i : Int).toNat ((0 : Nat) + (1 : Nat))).toI,
 bendI (r.el (↑i : Int).toNat ((0 : Nat) + (1 : Nat) + (1 : Nat))).toI)).snd)).snd =
 (bL tags size r (min r.len (20 : Nat))).snd ∧
 (rsndD (bD tags size r i) (r.el (↑i : Int).toNat ((0 : Nat) + (0 : Nat))).toI
 ((nrm
 (bendI (r.el (↑i : Int).toNat ((0 : Nat) + (1 : Nat))).toI,
 bendI (r.el (↑i : Int).toNat ((0 : Nat) + (1 : Nat) + (1 : Nat))).toI)).fst,
 (nrm
 (bendI (r.el (↑i : Int).toNat ((0 : Nat) + (1 : Nat))).toI,
 bendI (r.el (↑i : Int).toNat ((0 : Nat) + (1 : Nat) + (1 : Nat))).toI)).snd)).rows =
 (bD tags size r (min r.len (20 : Nat))).rows ∧
 false = true) ∧
 ((!sameE
 ((sndL size tags ((bL tags size r i).fst, (bL tags size r i).snd) (bD tags size r i)
 (r.el (↑i : Int).toNat ((0 : Nat) + (0 : Nat))).toI
 ((nrm
 (bendI (r.el (↑i : Int).toNat ((0 : Nat) + (1 : Nat))).toI,
 bendI (r.el (↑i : Int).toNat ((0 : Nat) + (1 : Nat) + (1 : Nat))).toI)).fst,
 (nrm
 (bendI (r.el (↑i : Int).toNat ((0 : Nat) + (1 : Nat))).toI,
 bendI (r.el (↑i : Int).toNat ((0 : Nat) + (1 : Nat) + (1 : Nat))).toI)).snd)).fst,
 (sndL size tags ((bL tags size r i).fst, (bL tags size r i).snd) (bD tags size r i)
 (r.el (↑i : Int).toNat ((0 : Nat) + (0 : Nat))).toI
 ((nrm
 (bendI (r.el (↑i : Int).toNat ((0 : Nat) + (1 : Nat))).toI,
 bendI (r.el (↑i : Int).toNat ((0 : Nat) + (1 : Nat) + (1 : Nat))).toI)).fst,
 (nrm
 (bendI (r.el (↑i : Int).toNat ((0 : Nat) + (1 : Nat))).toI,
 bendI (r.el (↑i : Int).toNat ((0 : Nat) + (1 : Nat) + (1 : Nat))).toI)).snd)).snd)
 (prD
 (sndD tags (bD tags size r i) (r.el (↑i : Int).toNat ((0 : Nat) + (0 : Nat))).toI
 ((nrm
 (bendI (r.el (↑i : Int).toNat ((0 : Nat) + (1 : Nat))).toI,
 bendI (r.el (↑i : Int).toNat ((0 : Nat) + (1 : Nat) + (1 : Nat))).toI)).fst,
 (nrm
 (bendI (r.el (↑i : Int).toNat ((0 : Nat) + (1 : Nat))).toI,
 bendI (r.el (↑i : Int).toNat ((0 : Nat) + (1 : Nat) + (1 : Nat))).toI)).snd)).len
 (pr
 (sndD tags (bD tags size r i) (r.el (↑i : Int).toNat ((0 : Nat) + (0 : Nat))).toI
 ((nrm
 (bendI (r.el (↑i : Int).toNat ((0 : Nat) + (1 : Nat))).toI,
 bendI (r.el (↑i : Int).toNat ((0 : Nat) + (1 : Nat) + (1 : Nat))).toI)).fst,
 (nrm
 (bendI (r.el (↑i : Int).toNat ((0 : Nat) + (1 : Nat))).toI,
 bendI (r.el (↑i : Int).toNat ((0 : Nat) + (1 : Nat) + (1 : Nat))).toI)).snd))))
 ((rsndL size ((bL tags size r i).fst, (bL tags size r i).snd) (bD tags size r i)
 (r.el (↑i : Int).toNat ((0 : Nat) + (0 : Nat))).toI
 ((nrm
 (bendI (r.el (↑i : Int).toNat ((0 : Nat) + (1 : Nat))).toI,
 bendI (r.el (↑i : Int).toNat ((0 : Nat) + (1 : Nat) + (1 : Nat))).toI)).fst,
 (nrm
 (bendI (r.el (↑i : Int).toNat ((0 : Nat) + (1 : Nat))).toI,
 bendI (r.el (↑i : Int).toNat ((0 : Nat) + (1 : Nat) + (1 : Nat))).toI)).snd)).fst,
 (rsndL size ((bL tags size r i).fst, (bL tags size r i).snd) (bD tags size r i)
 (r.el (↑i : Int).toNat ((0 : Nat) + (0 : Nat))).toI
 ((nrm
 (bendI (r.el (↑i : Int).toNat ((0 : Nat) + (1 : Nat))).toI,
 bendI (r.el (↑i : Int).toNat ((0 : Nat) + (1 : Nat) + (1 : Nat))).toI)).fst,
 (nrm
 (bendI (r.el (↑i : Int).toNat ((0 : Nat) + (1 : Nat))).toI,
 bendI (r.el (↑i : Int).toNat ((0 : Nat) + (1 : Nat) + (1 : Nat))).toI)).snd)).snd)
 (rsndD (bD tags size r i) (r.el (↑i : Int).toNat ((0 : Nat) + (0 : Nat))).toI
 ((nrm
 (bendI (r.el (↑i : Int).toNat ((0 : Nat) + (1 : Nat))).toI,
 bendI (r.el (↑i : Int).toNat ((0 : Nat) + (1 : Nat) + (1 : Nat))).toI)).fst,
 (nrm
 (bendI (r.el (↑i : Int).toNat ((0 : Nat) + (1 : Nat))).toI,
 bendI (r.el (↑i : Int).toNat ((0 : Nat) + (1 : Nat) + (1 : Nat))).toI)).snd))) =
 false →
 ∃ (j : Nat),
 j.le (min r.len (20 : Nat)) ∧
 min r.len (20 : Nat) + (1 : Nat) - j < min r.len (20 : Nat) + (1 : Nat) - i ∧
 IntKind.i64.wrap ((↑i : Int) + (1 : Int)) = (↑j : Int) ∧
 tags = tags ∧
 size = size ∧
 r.rows = r.rows ∧
 false = false ∧
 (sndL size tags ((bL tags size r i).fst, (bL tags size r i).snd) (bD tags size r i)
 (r.el (↑i : Int).toNat ((0 : Nat) + (0 : Nat))).toI
 ((nrm
 (bendI (r.el (↑i : Int).toNat ((0 : Nat) + (1 : Nat))).toI,
 bendI (r.el (↑i : Int).toNat ((0 : Nat) + (1 : Nat) + (1 : Nat))).toI)).fst,
 (nrm
 (bendI (r.el (↑i : Int).toNat ((0 : Nat) + (1 : Nat))).toI,
 bendI
 (r.el (↑i : Int).toNat ((0 : Nat) + (1 : Nat) + (1 : Nat))).toI)).snd)).fst =
 (bL tags size r j).fst ∧
 (sndL size tags ((bL tags size r i).fst, (bL tags size r i).snd) (bD tags size r i)
 (r.el (↑i : Int).toNat ((0 : Nat) + (0 : Nat))).toI
 ((nrm
 (bendI (r.el (↑i : Int).toNat ((0 : Nat) + (1 : Nat))).toI,
 bendI (r.el (↑i : Int).toNat ((0 : Nat) + (1 : Nat) + (1 : Nat))).toI)).fst,
 (nrm
 (bendI (r.el (↑i : Int).toNat ((0 : Nat) + (1 : Nat))).toI,
 bendI
 (r.el (↑i : Int).toNat ((0 : Nat) + (1 : Nat) + (1 : Nat))).toI)).snd)).snd =
 (bL tags size r j).snd ∧
 (sndD tags (bD tags size r i) (r.el (↑i : Int).toNat ((0 : Nat) + (0 : Nat))).toI
 ((nrm
 (bendI (r.el (↑i : Int).toNat ((0 : Nat) + (1 : Nat))).toI,
 bendI (r.el (↑i : Int).toNat ((0 : Nat) + (1 : Nat) + (1 : Nat))).toI)).fst,
 (nrm
 (bendI (r.el (↑i : Int).toNat ((0 : Nat) + (1 : Nat))).toI,
 bendI
 (r.el (↑i : Int).toNat
 ((0 : Nat) + (1 : Nat) + (1 : Nat))).toI)).snd)).rows =
 (bD tags size r j).rows ∧
 (rsndL size ((bL tags size r i).fst, (bL tags size r i).snd) (bD tags size r i)
 (r.el (↑i : Int).toNat ((0 : Nat) + (0 : Nat))).toI
 ((nrm
 (bendI (r.el (↑i : Int).toNat ((0 : Nat) + (1 : Nat))).toI,
 bendI (r.el (↑i : Int).toNat ((0 : Nat) + (1 : Nat) + (1 : Nat))).toI)).fst,
 (nrm
 (bendI (r.el (↑i : Int).toNat ((0 : Nat) + (1 : Nat))).toI,
 bendI
 (r.el (↑i : Int).toNat
 ((0 : Nat) + (1 : Nat) + (1 : Nat))).toI)).snd)).fst =
 (bL tags size r j).fst ∧
 (rsndL size ((bL tags size r i).fst, (bL tags size r i).snd) (bD tags size r i)
 (r.el (↑i : Int).toNat ((0 : Nat) + (0 : Nat))).toI
 ((nrm
 (bendI (r.el (↑i : Int).toNat ((0 : Nat) + (1 : Nat))).toI,
 bendI
 (r.el (↑i : Int).toNat ((0 : Nat) + (1 : Nat) + (1 : Nat))).toI)).fst,
 (nrm
 (bendI (r.el (↑i : Int).toNat ((0 : Nat) + (1 : Nat))).toI,
 bendI
 (r.el (↑i : Int).toNat
 ((0 : Nat) + (1 : Nat) + (1 : Nat))).toI)).snd)).snd =
 (bL tags size r j).snd ∧
 (rsndD (bD tags size r i) (r.el (↑i : Int).toNat ((0 : Nat) + (0 : Nat))).toI
 ((nrm
 (bendI (r.el (↑i : Int).toNat ((0 : Nat) + (1 : Nat))).toI,
 bendI
 (r.el (↑i : Int).toNat ((0 : Nat) + (1 : Nat) + (1 : Nat))).toI)).fst,
 (nrm
 (bendI (r.el (↑i : Int).toNat ((0 : Nat) + (1 : Nat))).toI,
 bendI
 (r.el (↑i : Int).toNat
 ((0 : Nat) + (1 : Nat) + (1 : Nat))).toI)).snd)).rows =
 (bD tags size r j).rows ∧
 (0 : Int) = (0 : Int) ∧
 (0 : Int) = (0 : Int) ∧
 (0 : Int) = (0 : Int) ∧
 (0 : Int) = (0 : Int) ∧
 (0 : Int) = (0 : Int) ∧
 size = size ∧
 (0 : Int) = (0 : Int) ∧ (1 : Int) = (1 : Int) ∧ tags = tags))) ∧
 ((decide ((↑i : Int) < (↑r.len : Int)) && decide ((↑i : Int) < (20 : Int))) = false →
 (bL tags size r i).fst = (bL tags size r (min r.len (20 : Nat))).fst ∧
 (bL tags size r i).snd = (bL tags size r (min r.len (20 : Nat))).snd ∧
 (bD tags size r i).rows = (bD tags size r (min r.len (20 : Nat))).rows ∧
 (bL tags size r i).fst = (bL tags size r (min r.len (20 : Nat))).fst ∧
 (bL tags size r i).snd = (bL tags size r (min r.len (20 : Nat))).snd ∧
 (bD tags size r i).rows = (bD tags size r (min r.len (20 : Nat))).rows ∧ true = true)) (by kernel_rfl) ?_
    intro ht hs
    simp only [Int.toNat_natCast]
    refine ⟨ht, ⟨by omega, by omega⟩, ⟨0, Nat.zero_le _, rfl, ?_⟩, fun i hi => ⟨fun x => ?_, fun x => ?_⟩⟩
    · (repeat' apply And.intro) <;> first | rfl | trivial
    · have x : (i : Int) < r.len ∧ (i : Int) < 20 := by simpa using x
      obtain ⟨x1, x2⟩ := x
      have i1 := (b_good ht hs r i).1
      have i2 := (b_good ht hs r (i + 1)).1
      have g1 : (bD tags size r i).len ≤ 8796093022208 := by omega
      have g2 : (bD tags size r (i + 1)).len ≤ 8796093022208 := by omega
      have g3 : ∀ d : D, d.len ≤ 8796093022208 → (prD d.len (pr d)).len ≤ 8796093022208 := fun d hd => by rw [prD_len]; exact hd
      have e1 : sndL size tags ((bL tags size r i).fst, (bL tags size r i).snd) (bD tags size r i) (r.el i (0 + 0)).toI ((nrm (bendI (r.el i (0 + 1)).toI, bendI (r.el i (0 + 1 + 1)).toI)).fst, (nrm (bendI (r.el i (0 + 1)).toI, bendI (r.el i (0 + 1 + 1)).toI)).snd) = bL tags size r (i + 1) := rfl
      have e2 : sndD tags (bD tags size r i) (r.el i (0 + 0)).toI ((nrm (bendI (r.el i (0 + 1)).toI, bendI (r.el i (0 + 1 + 1)).toI)).fst, (nrm (bendI (r.el i (0 + 1)).toI, bendI (r.el i (0 + 1 + 1)).toI)).snd) = bD tags size r (i + 1) := rfl
      have e3 : rsndL size ((bL tags size r i).fst, (bL tags size r i).snd) (bD tags size r i) (r.el i (0 + 0)).toI ((nrm (bendI (r.el i (0 + 1)).toI, bendI (r.el i (0 + 1 + 1)).toI)).fst, (nrm (bendI (r.el i (0 + 1)).toI, bendI (r.el i (0 + 1 + 1)).toI)).snd) = bL tags size r (i + 1) := (b_like ht hs r i).1
      have e4 : rsndD (bD tags size r i) (r.el i (0 + 0)).toI ((nrm (bendI (r.el i (0 + 1)).toI, bendI (r.el i (0 + 1 + 1)).toI)).fst, (nrm (bendI (r.el i (0 + 1)).toI, bendI (r.el i (0 + 1 + 1)).toI)).snd) = bD tags size r (i + 1) := (b_like ht hs r i).2
      simp only [e1, e2, e3, e4]
      refine ⟨by omega, g1, by omega, g1, by omega, g1, g1, g3 _ g1, fun y => (by rw [sameE_refl] at y; cases y), fun _ => ⟨g2, g3 _ g2, fun y => (by rw [same_pr] at y; cases y), fun _ => ⟨i + 1, (show i + 1 ≤ min r.len 20 by omega), by omega, wr _ (by omega), ?_⟩⟩⟩
      (repeat' apply And.intro) <;> first | rfl | trivial
    · have x : ¬ ((i : Int) < r.len ∧ (i : Int) < 20) := by simpa using x
      have e : i = min r.len 20 := by have : i ≤ min r.len 20 := hi; omega
      subst e
      (repeat' apply And.intro) <;> first | rfl | trivial
  · trivial
end Go.Proofs.Ytbcbcambkjhhhaa.Sx.Z
