/-
  queue: small calls, Send, Has, Within.
-/
import Derived.Test.YtbcbcambkjhhhaaCa
import Derived.Test.YtbcbcambkjhhhaaSxV
namespace Go.Proofs.Ytbcbcambkjhhhaa.Sx.Z
open Go.RowKit
def elA : AP := .agg [.c (.int .i64), .c (.int .i64), .c (.rows 48)]
def relA : AP := .agg [.c (.int .i64), .c (.int .i64), .c (.rows 52)]
def chA : AP := .agg [.c (.int .i64), .c (.int .i64), .c (.int .i64), .c (.int .i64), .c (.int .i64), .c (.rows 26)]
/-- A row of Itvs. -/
def pr (d : D) (j : Nat) : Int × Int := ((d.el j 0).toI, (d.el j 1).toI)
def cl (p : Int × Int) : List D := [.i p.1, .i p.2]
def prD (n : Nat) (g : Nat → Int × Int) : D := .l ((List.range n).map fun j => cl (g j))
theorem prD_len (n : Nat) (g : Nat → Int × Int) : (prD n g).len = n := by show ((List.range n).map _).length = n; simp
theorem prD_el {n j : Nat} (h : j < n) (g : Nat → Int × Int) : pr (prD n g) j = g j := by
  have e : (prD n g).rows.getD j [] = cl (g j) := by
    show ((List.range n).map fun j => cl (g j)).getD j [] = _
    rw [List.getD_eq_getElem?_getD, List.getElem?_map, List.getElem?_range h]; rfl
  unfold pr D.el
  rw [e]; rfl
theorem prD_congr {n : Nat} {g g' : Nat → Int × Int} (h : ∀ j, j < n → g j = g' j) : prD n g = prD n g' := by
  unfold prD
  rw [List.map_congr_left fun j hj => by rw [h j (List.mem_range.1 hj)]]
def setR (d : D) (k : Nat) (p : Int × Int) : D := .l (d.rows.set k (cl p))
theorem setR_len (d : D) (k : Nat) (p : Int × Int) : (setR d k p).len = d.len := by show (d.rows.set k _).length = d.rows.length; simp
theorem setR_pr (n : Nat) (g : Nat → Int × Int) {k : Nat} (hk : k < n) (p : Int × Int) : (setR (prD n g) k p).rows = (prD n fun j => if j = k then p else g j).rows := by
  show ((List.range n).map fun j => cl (g j)).set k (cl p) = (List.range n).map fun j => cl (if j = k then p else g j)
  apply List.ext_getElem?
  intro q
  rw [List.getElem?_set, List.getElem?_map, List.getElem?_map]
  by_cases hq : q < n
  · rw [List.getElem?_range hq]
    by_cases h1 : k = q
    · subst h1; rw [if_pos rfl, if_pos (by simpa using hk)]; simp
    · rw [if_neg h1]; simp; rw [if_neg (fun e => h1 e.symm)]
  · rw [List.getElem?_eq_none (by simpa using hq), if_neg (by omega)]; rfl
noncomputable def qcopiedS : List Dat → Option Eff := fun ds => match ds with
  | [.i l, .i h, .d d] => some { val := .one (.agg [.c (.int .i64 (.sym (l))), .c (.int .i64 (.sym (h))), .c (.osl 48 0 (.lit 0) (.sym d.len))]), vc := [d.len ≤ 8796093022208], nw := [(0, .orow 48 d)] }
  | _ => none
noncomputable def qcopiedC : Con := conS [elA] qcopiedS
theorem qcopied_ok : ConOK Try.prog 80 qcopiedC := by
  refine fn_obS tt_ok mixed Try.func80 rfl (fun _ _ => by kernel_rfl) (A := fun ds => ⟨fun _ => Cons.of [], fun _ => none, fun _ => none⟩) (fun _ _ => cons_nil) (by kernel_rfl) ?_
  intro ds
  unfold qcopiedS
  split
  · rename_i l h d
    refine kmp (q := d.len ≤ (8796093022208 : Nat) → ((0 : Nat) + d.len) * (16 : Nat) ≤ (140737488355328 : Nat) ∧ l = l ∧ h = h ∧ (0 : Nat) + d.len = d.len ∧ [] ++ d.rows = d.rows) (by kernel_rfl) ?_
    intro hd
    exact ⟨by omega, rfl, rfl, by omega, rfl⟩
  · trivial
noncomputable def qplaceS : FSpec := fun ds _ => match ds with
  | [.i a, .i b] => some { val := .one (.sc (.bool (.sym (decide (0 ≤ a) && decide (a < b))))), vc := [] }
  | _ => none
noncomputable def qplaceC : Con := con [iA, iA] qplaceS
theorem qplace_ok : ConOK Try.prog 75 qplaceC := by
  refine fn_ob tt_ok mixed Try.func75 rfl (fun _ _ => by kernel_rfl) (A := fun ds => ⟨fun _ => Cons.of [], fun _ => none, fun _ => none⟩) (fun _ _ => cons_nil) (by kernel_rfl) ?_
  intro ds fr
  unfold qplaceS
  split
  · rename_i a b
    refine kmp (q := (decide (a ≥ (0 : Int)) && decide (a < b)) = (decide ((0 : Int) ≤ a) && decide (a < b))) (by kernel_rfl) ?_
    rfl
  · trivial
noncomputable def qmoreS : FSpec := fun ds _ => match ds with
  | [.i a, .i b] => some { val := .one (.sc (.int .i64 (.sym (if a < b then IntKind.i64.wrap (a + 1) else b)))), vc := [] }
  | _ => none
noncomputable def qmoreC : Con := con [iA, iA] qmoreS
theorem qmore_ok : ConOK Try.prog 81 qmoreC := by
  refine fn_ob tt_ok mixed Try.func81 rfl (fun _ _ => by kernel_rfl) (A := fun ds => ⟨fun _ => Cons.of [], fun _ => none, fun _ => none⟩) (fun _ _ => cons_nil) (by kernel_rfl) ?_
  intro ds fr
  unfold qmoreS
  split
  · rename_i a b
    refine kmp (q := (decide (a < b) = true → IntKind.i64.wrap (a + (1 : Int)) = if a < b then IntKind.i64.wrap (a + (1 : Int)) else b) ∧
 (decide (a < b) = false → b = if a < b then IntKind.i64.wrap (a + (1 : Int)) else b)) (by kernel_rfl) ?_
    exact ⟨fun h => (if_pos (by simpa using h)).symm, fun h => (if_neg (by simpa using h)).symm⟩
  · trivial
def sndB (tags : Int) (d : D) (tag : Int) (i : Int × Int) : Bool := !(decide (i.2 < i.1)) && (decide (0 ≤ tag) && decide (tag < tags)) && (decide (0 ≤ tag) && decide (tag < d.len))
def sndL (size tags : Int) (l : Int × Int) (d : D) (tag : Int) (i : Int × Int) : Int × Int := if sndB tags d tag i = true then ofI 0 (if l.2 < size then IntKind.i64.wrap (l.2 + 1) else size) else l
def sndD (tags : Int) (d : D) (tag : Int) (i : Int × Int) : D := if sndB tags d tag i = true then setR d tag.toNat (jnI (pr d tag.toNat) i) else d
noncomputable def qsendS : FSpec := fun ds _ => match ds with
  | [.i _kd, .i size, .i _frm, .i _dst, .i tags, .d _rl, .i l, .i h, .d d, .i tag, .i i0, .i i1] => some { val := .one (.agg [.c (.int .i64 (.sym ((sndL size tags (l, h) d tag (i0, i1)).1))), .c (.int .i64 (.sym ((sndL size tags (l, h) d tag (i0, i1)).2))), .c (.rows 48 (sndD tags d tag (i0, i1)))]), vc := [d.len ≤ 8796093022208] }
  | _ => none
noncomputable def qsendC : Con := con [chA, elA, iA, itvA] qsendS
theorem qsend_ok : ConOK Try.prog 33 qsendC := by
  refine fn_ob tt_ok mixed Try.func33 rfl (fun _ _ => by kernel_rfl) (A := fun ds => ⟨fun _ => Cons.of [(80, qcopiedC), (46, emptyC), (75, qplaceC), (81, qmoreC), (68, iofC), (70, ijoinC)], fun _ => none, fun _ => none⟩) (fun _ _ => (cons_cons qcopied_ok (cons_cons empty_ok (cons_cons qplace_ok (cons_cons qmore_ok (cons_cons iof_ok (cons_cons ijoin_ok cons_nil))))))) (by kernel_rfl) ?_
  intro ds fr
  unfold qsendS
  split
  · rename_i kd size frm dst tags rl l h d tag i0 i1
    refine kmp (q := d.len ≤ (8796093022208 : Nat) →
 d.len ≤ (8796093022208 : Nat) ∧
 ((decide (i1 < i0) || !(decide ((0 : Int) ≤ tag) && decide (tag < tags)) || !(decide ((0 : Int) ≤ tag) && decide (tag < (↑d.len : Int)))) = true →
 nat_lit 0 + d.len ≤ d.len ∧
 l = (sndL size tags (l, h) d tag (i0, i1)).fst ∧
 h = (sndL size tags (l, h) d tag (i0, i1)).snd ∧ List.drop (nat_lit 0) (List.take (nat_lit 0 + d.len) d.rows) = (sndD tags d tag (i0, i1)).rows) ∧
 ((decide (i1 < i0) || !(decide ((0 : Int) ≤ tag) && decide (tag < tags)) || !(decide ((0 : Int) ≤ tag) && decide (tag < (↑d.len : Int)))) = false →
 ((0 : Int) ≤ tag ∧ tag < (↑d.len : Int)) ∧
 ((0 : Int) ≤ tag ∧ tag < (↑d.len : Int)) ∧
 tag.toNat < d.len ∧
 nat_lit 0 + d.len ≤
 (d.setc [K.int IntKind.i64, K.int IntKind.i64].length tag.toNat (0 : Nat)
 [D.i (jnI ((d.el tag.toNat (0 : Nat)).toI, (d.el tag.toNat ((0 : Nat) + (1 : Nat))).toI) (i0, i1)).fst,
 D.i (jnI ((d.el tag.toNat (0 : Nat)).toI, (d.el tag.toNat ((0 : Nat) + (1 : Nat))).toI) (i0, i1)).snd]).len ∧
 ofLo (0 : Int) (if h < size then IntKind.i64.wrap (h + (1 : Int)) else size) = (sndL size tags (l, h) d tag (i0, i1)).fst ∧
 ofHi (0 : Int) (if h < size then IntKind.i64.wrap (h + (1 : Int)) else size) = (sndL size tags (l, h) d tag (i0, i1)).snd ∧
 List.drop (nat_lit 0)
 (List.take (nat_lit 0 + d.len)
 (d.rows.set tag.toNat
 [D.i (jnI ((d.el tag.toNat (0 : Nat)).toI, (d.el tag.toNat ((0 : Nat) + (1 : Nat))).toI) (i0, i1)).fst,
 D.i (jnI ((d.el tag.toNat (0 : Nat)).toI, (d.el tag.toNat ((0 : Nat) + (1 : Nat))).toI) (i0, i1)).snd])) =
 (sndD tags d tag (i0, i1)).rows)) (by kernel_rfl) ?_
    intro hd
    have full : ∀ r : List (List D), r.length = d.len → (r.take (0 + d.len)).drop 0 = r := fun r hr => by rw [Nat.zero_add, List.drop_zero, ← hr, List.take_length]
    have e : (decide (i1 < i0) || !(decide (0 ≤ tag) && decide (tag < tags)) || !(decide (0 ≤ tag) && decide (tag < (d.len : Int)))) = !(sndB tags d tag (i0, i1)) := by
      unfold sndB
      cases decide (i1 < i0) <;> cases (decide (0 ≤ tag) && decide (tag < tags)) <;> cases (decide (0 ≤ tag) && decide (tag < (d.len : Int))) <;> rfl
    rw [e]
    refine ⟨hd, fun h => ?_, fun h => ?_⟩
    · have h : ¬ sndB tags d tag (i0, i1) = true := by simpa using h
      unfold sndL sndD
      rw [if_neg h, if_neg h]
      exact ⟨(show 0 + d.len ≤ d.len by simp), rfl, rfl, full _ rfl⟩
    · have h : sndB tags d tag (i0, i1) = true := by simpa using h
      have ht : 0 ≤ tag ∧ tag < d.len := by
        unfold sndB at h
        simp only [Bool.and_eq_true, decide_eq_true_eq] at h
        omega
      unfold sndL sndD
      rw [if_pos h, if_pos h]
      refine ⟨ht, ht, by omega, ?_, rfl, rfl, full _ (by simp; rfl)⟩
      show 0 + d.len ≤ (d.rows.set tag.toNat _).length
      rw [List.length_set]
      show 0 + d.rows.length ≤ d.rows.length
      omega
  · trivial
def hasJ (e : (Int × Int) × D) (q : D) (j : Nat) : Bool := (decide (0 ≤ (q.el j 0).toI) && decide ((q.el j 0).toI < e.2.len)) && (decide ((pr e.2 (q.el j 0).toI.toNat).1 ≤ (q.el j 1).toI) && decide ((q.el j 1).toI ≤ (pr e.2 (q.el j 0).toI.toNat).2))
def allQ (p : Nat → Bool) (m : Nat) : Bool := (List.range m).all p
theorem allQ_iff {p : Nat → Bool} {m : Nat} : allQ p m = true ↔ ∀ j, j < m → p j = true := by
  unfold allQ
  rw [List.all_eq_true]
  exact ⟨fun h j hj => h j (List.mem_range.2 hj), fun h j hj => h j (List.mem_range.1 hj)⟩
theorem allQ_no {p : Nat → Bool} {m j : Nat} (hj : j < m) (h : p j = false) : allQ p m = false := by
  cases e : allQ p m with
  | false => rfl
  | true => have := allQ_iff.1 e j hj; rw [h] at this; cases this
def hasQ (l h : Int) (d q : D) : Bool := allQ (hasJ ((l, h), d) q) q.len && (decide (l ≤ q.len) && decide ((q.len : Int) ≤ h))
def winI (a b : Int × Int) : Bool := decide (a.2 < a.1) || (decide (b.1 ≤ a.1) && decide (a.2 ≤ b.2))
def winE (a : Int × Int) (A : D) (b : Int × Int) (B : D) : Bool := if A.len = B.len then allQ (fun j => winI (pr A j) (pr B j)) A.len && winI a b else false
noncomputable def qhasS : FSpec := fun ds _ => match ds with
  | [.i l, .i h, .d d, .d q] => some { val := .one (.sc (.bool (.sym (hasQ l h d q)))), vc := [q.len ≤ 8796093022208, d.len ≤ 8796093022208] }
  | _ => none
noncomputable def qhasC : Con := con [elA, .sc (.rows 61)] qhasS
theorem qhas_ok : ConOK Try.prog 28 qhasC := by
  refine fn_ob tt_ok mixed Try.func28 rfl (fun _ _ => by kernel_rfl) (A := fun ds => ⟨fun _ => Cons.of [(75, qplaceC), (45, ihasC)], fun k => match k, ds with | 2, [.i l, .i h, .d d, .d q] => some { ι := Nat, pre := fun _ k => k ≤ q.len ∧ ∀ j, j < k → hasJ ((l, h), d) q j = true, μ := fun k => q.len + 1 - k, st := fun s k => famR s [(9, .one (.sc (.int .i64 (.sym ((k : Nat))))))] [1, 2, 4, 7, 8] [] [2] } | _, _ => none, fun _ => none⟩) (fun _ _ => (cons_cons qplace_ok (cons_cons ihas_ok cons_nil))) (by kernel_rfl) ?_
  intro ds fr
  unfold qhasS
  split
  · rename_i l h d q
    refine kmp (q := q.len ≤ (8796093022208 : Nat) →
 d.len ≤ (8796093022208 : Nat) →
 (∃ (i : Nat),
 (i ≤ q.len ∧ ∀ (j : Nat), j < i → hasJ ((l, h), d) q j = true) ∧
 (0 : Int) = (↑i : Int) ∧ q.rows = q.rows ∧ false = false ∧ q.rows = q.rows ∧ (↑q.len : Int) = (↑q.len : Int) ∧ l = l ∧ h = h ∧ d.rows = d.rows) ∧
 ∀ (i : Nat),
 (i ≤ q.len ∧ ∀ (j : Nat), j < i → hasJ ((l, h), d) q j = true) →
 (decide ((↑i : Int) < (↑q.len : Int)) = true →
 ((0 : Int) ≤ (↑i : Int) ∧ (↑i : Int) < (↑q.len : Int)) ∧
 ((!(decide ((0 : Int) ≤ (q.el (↑i : Int).toNat (0 : Nat)).toI) && decide ((q.el (↑i : Int).toNat (0 : Nat)).toI < (↑d.len : Int)))) = false ∧
 True →
 (0 : Int) ≤ (q.el (↑i : Int).toNat (0 : Nat)).toI ∧ (q.el (↑i : Int).toNat (0 : Nat)).toI < (↑d.len : Int)) ∧
 ((!(decide ((0 : Int) ≤ (q.el (↑i : Int).toNat (0 : Nat)).toI) && decide ((q.el (↑i : Int).toNat (0 : Nat)).toI < (↑d.len : Int))) ||
 !(decide ((d.el (q.el (↑i : Int).toNat (0 : Nat)).toI.toNat (0 : Nat)).toI ≤ (q.el (↑i : Int).toNat ((0 : Nat) + (1 : Nat))).toI) &&
 decide
 ((q.el (↑i : Int).toNat ((0 : Nat) + (1 : Nat))).toI ≤
 (d.el (q.el (↑i : Int).toNat (0 : Nat)).toI.toNat ((0 : Nat) + (1 : Nat))).toI))) =
 true →
 false = hasQ l h d q) ∧
 ((!(decide ((0 : Int) ≤ (q.el (↑i : Int).toNat (0 : Nat)).toI) && decide ((q.el (↑i : Int).toNat (0 : Nat)).toI < (↑d.len : Int))) ||
 !(decide ((d.el (q.el (↑i : Int).toNat (0 : Nat)).toI.toNat (0 : Nat)).toI ≤ (q.el (↑i : Int).toNat ((0 : Nat) + (1 : Nat))).toI) &&
 decide
 ((q.el (↑i : Int).toNat ((0 : Nat) + (1 : Nat))).toI ≤
 (d.el (q.el (↑i : Int).toNat (0 : Nat)).toI.toNat ((0 : Nat) + (1 : Nat))).toI))) =
 false →
 ∃ (j : Nat),
 (j ≤ q.len ∧ ∀ (j_1 : Nat), j_1 < j → hasJ ((l, h), d) q j_1 = true) ∧
 q.len + (1 : Nat) - j < q.len + (1 : Nat) - i ∧
 IntKind.i64.wrap ((↑i : Int) + (1 : Int)) = (↑j : Int) ∧
 q.rows = q.rows ∧ false = false ∧ q.rows = q.rows ∧ (↑q.len : Int) = (↑q.len : Int) ∧ l = l ∧ h = h ∧ d.rows = d.rows)) ∧
 (decide ((↑i : Int) < (↑q.len : Int)) = false → (decide (l ≤ (↑q.len : Int)) && decide ((↑q.len : Int) ≤ h)) = hasQ l h d q)) (by kernel_rfl) ?_
    intro hq hd
    simp only [Int.toNat_natCast]
    have ej : ∀ i, (!(decide (0 ≤ (q.el i 0).toI) && decide ((q.el i 0).toI < (d.len : Int))) || !(decide ((d.el (q.el i 0).toI.toNat 0).toI ≤ (q.el i (0 + 1)).toI) && decide ((q.el i (0 + 1)).toI ≤ (d.el (q.el i 0).toI.toNat (0 + 1)).toI))) = !(hasJ ((l, h), d) q i) := fun i => (Bool.not_and _ _).symm
    simp only [ej]
    refine ⟨⟨0, ⟨Nat.zero_le _, fun j hj => absurd hj (Nat.not_lt_zero j)⟩, rfl, ?_⟩, fun i hi => ⟨fun c => ?_, fun c => ?_⟩⟩
    · (repeat' apply And.intro) <;> first | rfl | trivial
    · have c : i < q.len := by simpa using c
      refine ⟨by omega, fun x => ?_, fun x => ?_, fun x => ⟨i + 1, ⟨by omega, fun j hj => ?_⟩, by omega, wr _ (by omega), ?_⟩⟩
      · have x := x.1
        simp only [Bool.not_eq_false', Bool.and_eq_true, decide_eq_true_eq] at x
        exact x
      · have x : hasJ ((l, h), d) q i = false := by simpa using x
        unfold hasQ
        rw [allQ_no c x]; rfl
      · have x : hasJ ((l, h), d) q i = true := by simpa using x
        by_cases hji : j < i
        · exact hi.2 j hji
        · rw [show j = i by omega]; exact x
      · (repeat' apply And.intro) <;> first | rfl | trivial
    · have c : ¬ i < q.len := by simpa using c
      unfold hasQ
      rw [allQ_iff.2 fun j hj => hi.2 j (by omega)]; rfl
  · trivial
noncomputable def qwithinS : FSpec := fun ds _ => match ds with
  | [.i l, .i h, .d d, .i l2, .i h2, .d d2] => some { val := .one (.sc (.bool (.sym (winE (l, h) d (l2, h2) d2)))), vc := [d.len ≤ 8796093022208] }
  | _ => none
noncomputable def qwithinC : Con := con [elA, elA] qwithinS
theorem qwithin_ok : ConOK Try.prog 31 qwithinC := by
  refine fn_ob tt_ok mixed Try.func31 rfl (fun _ _ => by kernel_rfl) (A := fun ds => ⟨fun _ => Cons.of [(79, iwithinC)], fun k => match k, ds with | 4, [.i l, .i h, .d d, .i l2, .i h2, .d d2] => some { ι := Nat, pre := fun _ k => k ≤ d.len ∧ d.len = d2.len ∧ ∀ j, j < k → winI (pr d j) (pr d2 j) = true, μ := fun k => d.len + 1 - k, st := fun s k => famR s [(17, .one (.sc (.int .i64 (.sym ((k : Nat))))))] [2, 3, 4, 15, 16] [] [2, 3] } | _, _ => none, fun _ => none⟩) (fun _ _ => (cons_cons iwithin_ok cons_nil)) (by kernel_rfl) ?_
  intro ds fr
  unfold qwithinS
  split
  · rename_i l h d l2 h2 d2
    refine kmp (q := d.len ≤ (8796093022208 : Nat) →
 (((↑d.len : Int) != (↑d2.len : Int)) = true → false = winE (l, h) d (l2, h2) d2) ∧
 (((↑d.len : Int) != (↑d2.len : Int)) = false →
 (∃ (i : Nat),
 (i ≤ d.len ∧ d.len = d2.len ∧ ∀ (j : Nat), j < i → winI (pr d j) (pr d2 j) = true) ∧
 (0 : Int) = (↑i : Int) ∧
 false = false ∧ d.rows = d.rows ∧ (↑d.len : Int) = (↑d.len : Int) ∧ l = l ∧ h = h ∧ d.rows = d.rows ∧ l2 = l2 ∧ h2 = h2 ∧ d2.rows = d2.rows) ∧
 ∀ (i : Nat),
 (i ≤ d.len ∧ d.len = d2.len ∧ ∀ (j : Nat), j < i → winI (pr d j) (pr d2 j) = true) →
 (decide ((↑i : Int) < (↑d.len : Int)) = true →
 ((0 : Int) ≤ (↑i : Int) ∧ (↑i : Int) < (↑d.len : Int)) ∧
 ((0 : Int) ≤ (↑i : Int) ∧ (↑i : Int) < (↑d2.len : Int)) ∧
 ((!(decide ((d.el (↑i : Int).toNat ((0 : Nat) + (1 : Nat))).toI < (d.el (↑i : Int).toNat (0 : Nat)).toI) ||
 decide ((d2.el (↑i : Int).toNat (0 : Nat)).toI ≤ (d.el (↑i : Int).toNat (0 : Nat)).toI) &&
 decide ((d.el (↑i : Int).toNat ((0 : Nat) + (1 : Nat))).toI ≤ (d2.el (↑i : Int).toNat ((0 : Nat) + (1 : Nat))).toI))) =
 true →
 false = winE (l, h) d (l2, h2) d2) ∧
 ((!(decide ((d.el (↑i : Int).toNat ((0 : Nat) + (1 : Nat))).toI < (d.el (↑i : Int).toNat (0 : Nat)).toI) ||
 decide ((d2.el (↑i : Int).toNat (0 : Nat)).toI ≤ (d.el (↑i : Int).toNat (0 : Nat)).toI) &&
 decide ((d.el (↑i : Int).toNat ((0 : Nat) + (1 : Nat))).toI ≤ (d2.el (↑i : Int).toNat ((0 : Nat) + (1 : Nat))).toI))) =
 false →
 ∃ (j : Nat),
 (j ≤ d.len ∧ d.len = d2.len ∧ ∀ (j_1 : Nat), j_1 < j → winI (pr d j_1) (pr d2 j_1) = true) ∧
 d.len + (1 : Nat) - j < d.len + (1 : Nat) - i ∧
 IntKind.i64.wrap ((↑i : Int) + (1 : Int)) = (↑j : Int) ∧
 false = false ∧
 d.rows = d.rows ∧
 (↑d.len : Int) = (↑d.len : Int) ∧ l = l ∧ h = h ∧ d.rows = d.rows ∧ l2 = l2 ∧ h2 = h2 ∧ d2.rows = d2.rows)) ∧
 (decide ((↑i : Int) < (↑d.len : Int)) = false → (decide (h < l) || decide (l2 ≤ l) && decide (h ≤ h2)) = winE (l, h) d (l2, h2) d2))) (by kernel_rfl) ?_
    intro hd
    simp only [Int.toNat_natCast]
    refine ⟨fun c => ?_, fun c => ⟨⟨0, ⟨Nat.zero_le _, ?_, fun j hj => absurd hj (Nat.not_lt_zero j)⟩, rfl, ?_⟩, fun i hi => ⟨fun x => ?_, fun x => ?_⟩⟩⟩
    · have c : ¬ d.len = d2.len := by intro e; rw [e] at c; simp at c
      unfold winE; rw [if_neg c]
    · simp at c; omega
    · (repeat' apply And.intro) <;> first | rfl | trivial
    · have x : i < d.len := by simpa using x
      obtain ⟨i1, i2, i3⟩ := hi
      refine ⟨by omega, by omega, fun y => ?_, fun y => ⟨i + 1, ⟨by omega, i2, fun j hj => ?_⟩, by omega, wr _ (by omega), ?_⟩⟩
      · have y : winI (pr d i) (pr d2 i) = false := by rw [Bool.not_eq_true'] at y; exact y
        unfold winE
        rw [if_pos i2, allQ_no x y]; rfl
      · have y : winI (pr d i) (pr d2 i) = true := by rw [Bool.not_eq_false'] at y; exact y
        by_cases hji : j < i
        · exact i3 j hji
        · rw [show j = i by omega]; exact y
      · (repeat' apply And.intro) <;> first | rfl | trivial
    · have x : ¬ i < d.len := by simpa using x
      obtain ⟨i1, i2, i3⟩ := hi
      unfold winE
      rw [if_pos i2, allQ_iff.2 fun j hj => i3 j (by omega)]; rfl
  · trivial
end Go.Proofs.Ytbcbcambkjhhhaa.Sx.Z
