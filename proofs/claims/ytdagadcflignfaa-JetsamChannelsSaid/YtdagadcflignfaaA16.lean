/-
  queue: small calls, Send, Has, Within.; itv's small calls: what they tell, plainly.; itv's and the reference's calls of two: within, either, both, as far as may be, back again.; The least and the greatest of four numbers; what is made of the ends of two.; Do of sums and differences, and of nothing; Neg; what every law of layer 8 asks.; queue's smallest calls.; Regions that draw their order, where two blocks are made beside calls: what is carried through.; Regions that draw their order, and end in stores: what is carried through.; A block that is made behind two stores.; queue's copies: rows of Itvs of one's own.; copy of elements of any size; slices.Repeat of one Itv.
-/
import Derived.Test.YtdagadcflignfaaA15
import Derived.Test.YtdagadcflignfaaChecked
import Derived.WalkKit
import Derived.ProofKit
import Derived.Below
import Derived.Handy
import Derived.Lib.Hide
import Derived.IntWalk
import Derived.Deep.WholeRow
import Derived.Deep.Cut
import Derived.Deep.RegionHeld3
import Derived.Deep.CutRange
import Derived.Deep.AppendLies
import Derived.Laws.OwnMore
import Derived.Maps.AppendAt
import Derived.Deep.RegionLaw
import Derived.RegionTactic
import Derived.Outline
import Derived.Laws.CopyOwn
namespace Go.Proofs.Ytdagadcflignfaa.Sx.Z
open Go.RowKit
def elA : AP := .agg [.c (.int .i64), .c (.int .i64), .c (.rows 82)]
def chA : AP := .agg [.c (.int .i64), .c (.int .i64), .c (.int .i64), .c (.int .i64), .c (.int .i64), .c (.rows 35)]
/-- A row of Itvs. -/
def pr (d : D) (j : Nat) : Int × Int := ((d.el j 0).toI, (d.el j 1).toI)
def cl (p : Int × Int) : List D := [.i p.1, .i p.2]
def prD (n : Nat) (g : Nat → Int × Int) : D := .l ((List.range n).map fun j => cl (g j))
theorem prD_len (n : Nat) (g : Nat → Int × Int) : (prD n g).len = n := by show ((List.range n).map _).length = n; simp
theorem prD_el {n j : Nat} (h : j < n) (g : Nat → Int × Int) : pr (prD n g) j = g j := by
  have e : (prD n g).rows.getD j [] = cl (g j) := by
    show ((List.range n).map fun j => cl (g j)).getD j [] = _
    rw [List.getD_eq_getElem?_getD, List.getElem?_map, List.getElem?_range h]; rfl
  unfold pr D.el
  rw [e]; rfl
theorem prD_congr {n : Nat} {g g' : Nat → Int × Int} (h : ∀ j, j < n → g j = g' j) : prD n g = prD n g' := by
  unfold prD
  rw [List.map_congr_left fun j hj => by rw [h j (List.mem_range.1 hj)]]
def setR (d : D) (k : Nat) (p : Int × Int) : D := .l (d.rows.set k (cl p))
theorem setR_len (d : D) (k : Nat) (p : Int × Int) : (setR d k p).len = d.len := by show (d.rows.set k _).length = d.rows.length; simp
theorem setR_pr (n : Nat) (g : Nat → Int × Int) {k : Nat} (hk : k < n) (p : Int × Int) : (setR (prD n g) k p).rows = (prD n fun j => if j = k then p else g j).rows := by
  show ((List.range n).map fun j => cl (g j)).set k (cl p) = (List.range n).map fun j => cl (if j = k then p else g j)
  apply List.ext_getElem?
  intro q
  rw [List.getElem?_set, List.getElem?_map, List.getElem?_map]
  by_cases hq : q < n
  · rw [List.getElem?_range hq]
    by_cases h1 : k = q
    · subst h1; rw [if_pos rfl, if_pos (by simpa using hk)]; simp
    · rw [if_neg h1]; simp; rw [if_neg (fun e => h1 e.symm)]
  · rw [List.getElem?_eq_none (by simpa using hq), if_neg (by omega)]; rfl
noncomputable def qcopiedS : List Dat → Option Eff := fun ds => match ds with
  | [.i l, .i h, .d d] => some { val := .one (.agg [.c (.int .i64 (.sym (l))), .c (.int .i64 (.sym (h))), .c (.osl 82 0 (.lit 0) (.sym d.len))]), vc := [d.len ≤ 8796093022208], nw := [(0, .orow 82 d)] }
  | _ => none
noncomputable def qcopiedC : Con := conS [elA] qcopiedS
theorem qcopied_ok : ConOK Try.prog 50 qcopiedC := by
  refine fn_obS tt_ok mixed Try.func50 rfl (fun _ _ => by kernel_rfl) (A := fun ds => ⟨fun _ => Cons.of [], fun _ => none, fun _ => none⟩) (fun _ _ => cons_nil) (by kernel_rfl) ?_
  intro ds
  unfold qcopiedS
  split
  · rename_i l h d
    refine kmp (q := d.len ≤ (8796093022208 : Nat) → ((0 : Nat) + d.len) * (16 : Nat) ≤ (140737488355328 : Nat) ∧ l = l ∧ h = h ∧ (0 : Nat) + d.len = d.len ∧ [] ++ d.rows = d.rows) (by kernel_rfl) ?_
    intro hd
    exact ⟨by omega, rfl, rfl, by omega, rfl⟩
  · trivial
noncomputable def qplaceS : FSpec := fun ds _ => match ds with
  | [.i a, .i b] => some { val := .one (.sc (.bool (.sym (decide (0 ≤ a) && decide (a < b))))), vc := [] }
  | _ => none
noncomputable def qplaceC : Con := con [iA, iA] qplaceS
theorem qplace_ok : ConOK Try.prog 52 qplaceC := by
  refine fn_ob tt_ok mixed Try.func52 rfl (fun _ _ => by kernel_rfl) (A := fun ds => ⟨fun _ => Cons.of [], fun _ => none, fun _ => none⟩) (fun _ _ => cons_nil) (by kernel_rfl) ?_
  intro ds fr
  unfold qplaceS
  split
  · rename_i a b
    refine kmp (q := (decide (a ≥ (0 : Int)) && decide (a < b)) = (decide ((0 : Int) ≤ a) && decide (a < b))) (by kernel_rfl) ?_
    rfl
  · trivial
noncomputable def qmoreS : FSpec := fun ds _ => match ds with
  | [.i a, .i b] => some { val := .one (.sc (.int .i64 (.sym (if a < b then IntKind.i64.wrap (a + 1) else b)))), vc := [] }
  | _ => none
noncomputable def qmoreC : Con := con [iA, iA] qmoreS
theorem qmore_ok : ConOK Try.prog 54 qmoreC := by
  refine fn_ob tt_ok mixed Try.func54 rfl (fun _ _ => by kernel_rfl) (A := fun ds => ⟨fun _ => Cons.of [], fun _ => none, fun _ => none⟩) (fun _ _ => cons_nil) (by kernel_rfl) ?_
  intro ds fr
  unfold qmoreS
  split
  · rename_i a b
    refine kmp (q := (decide (a < b) = true → IntKind.i64.wrap (a + (1 : Int)) = if a < b then IntKind.i64.wrap (a + (1 : Int)) else b) ∧
 (decide (a < b) = false → b = if a < b then IntKind.i64.wrap (a + (1 : Int)) else b)) (by kernel_rfl) ?_
    exact ⟨fun h => (if_pos (by simpa using h)).symm, fun h => (if_neg (by simpa using h)).symm⟩
  · trivial
def sndB (tags : Int) (d : D) (tag : Int) (i : Int × Int) : Bool := !(decide (i.2 < i.1)) && (decide (0 ≤ tag) && decide (tag < tags)) && (decide (0 ≤ tag) && decide (tag < d.len))
def sndL (size tags : Int) (l : Int × Int) (d : D) (tag : Int) (i : Int × Int) : Int × Int := if sndB tags d tag i = true then ofI 0 (if l.2 < size then IntKind.i64.wrap (l.2 + 1) else size) else l
def sndD (tags : Int) (d : D) (tag : Int) (i : Int × Int) : D := if sndB tags d tag i = true then setR d tag.toNat (jnI (pr d tag.toNat) i) else d
noncomputable def qsendS : FSpec := fun ds _ => match ds with
  | [.i _kd, .i size, .i _frm, .i _dst, .i tags, .d _rl, .i l, .i h, .d d, .i tag, .i i0, .i i1] => some { val := .one (.agg [.c (.int .i64 (.sym ((sndL size tags (l, h) d tag (i0, i1)).1))), .c (.int .i64 (.sym ((sndL size tags (l, h) d tag (i0, i1)).2))), .c (.rows 82 (sndD tags d tag (i0, i1)))]), vc := [d.len ≤ 8796093022208] }
  | _ => none
noncomputable def qsendC : Con := con [chA, elA, iA, itvA] qsendS
theorem qsend_ok : ConOK Try.prog 24 qsendC := by
  refine fn_ob tt_ok mixed Try.func24 rfl (fun _ _ => by kernel_rfl) (A := fun ds => ⟨fun _ => Cons.of [(50, qcopiedC), (51, emptyC), (52, qplaceC), (54, qmoreC), (53, iofC), (55, ijoinC)], fun _ => none, fun _ => none⟩) (fun _ _ => (cons_cons qcopied_ok (cons_cons empty_ok (cons_cons qplace_ok (cons_cons qmore_ok (cons_cons iof_ok (cons_cons ijoin_ok cons_nil))))))) (by kernel_rfl) ?_
  intro ds fr
  unfold qsendS
  split
  · rename_i kd size frm dst tags rl l h d tag i0 i1
    refine kmp (q := d.len ≤ (8796093022208 : Nat) →
 d.len ≤ (8796093022208 : Nat) ∧
 ((decide (i1 < i0) || !(decide ((0 : Int) ≤ tag) && decide (tag < tags)) || !(decide ((0 : Int) ≤ tag) && decide (tag < (↑d.len : Int)))) = true →
 nat_lit 0 + d.len ≤ d.len ∧
 l = (sndL size tags (l, h) d tag (i0, i1)).fst ∧
 h = (sndL size tags (l, h) d tag (i0, i1)).snd ∧ List.drop (nat_lit 0) (List.take (nat_lit 0 + d.len) d.rows) = (sndD tags d tag (i0, i1)).rows) ∧
 ((decide (i1 < i0) || !(decide ((0 : Int) ≤ tag) && decide (tag < tags)) || !(decide ((0 : Int) ≤ tag) && decide (tag < (↑d.len : Int)))) = false →
 ((0 : Int) ≤ tag ∧ tag < (↑d.len : Int)) ∧
 ((0 : Int) ≤ tag ∧ tag < (↑d.len : Int)) ∧
 tag.toNat < d.len ∧
 nat_lit 0 + d.len ≤
 (d.setc [K.int IntKind.i64, K.int IntKind.i64].length tag.toNat (0 : Nat)
 [D.i (jnI ((d.el tag.toNat (0 : Nat)).toI, (d.el tag.toNat ((0 : Nat) + (1 : Nat))).toI) (i0, i1)).fst,
 D.i (jnI ((d.el tag.toNat (0 : Nat)).toI, (d.el tag.toNat ((0 : Nat) + (1 : Nat))).toI) (i0, i1)).snd]).len ∧
 ofLo (0 : Int) (if h < size then IntKind.i64.wrap (h + (1 : Int)) else size) = (sndL size tags (l, h) d tag (i0, i1)).fst ∧
 ofHi (0 : Int) (if h < size then IntKind.i64.wrap (h + (1 : Int)) else size) = (sndL size tags (l, h) d tag (i0, i1)).snd ∧
 List.drop (nat_lit 0)
 (List.take (nat_lit 0 + d.len)
 (d.rows.set tag.toNat
 [D.i (jnI ((d.el tag.toNat (0 : Nat)).toI, (d.el tag.toNat ((0 : Nat) + (1 : Nat))).toI) (i0, i1)).fst,
 D.i (jnI ((d.el tag.toNat (0 : Nat)).toI, (d.el tag.toNat ((0 : Nat) + (1 : Nat))).toI) (i0, i1)).snd])) =
 (sndD tags d tag (i0, i1)).rows)) (by kernel_rfl) ?_
    intro hd
    have full : ∀ r : List (List D), r.length = d.len → (r.take (0 + d.len)).drop 0 = r := fun r hr => by rw [Nat.zero_add, List.drop_zero, ← hr, List.take_length]
    have e : (decide (i1 < i0) || !(decide (0 ≤ tag) && decide (tag < tags)) || !(decide (0 ≤ tag) && decide (tag < (d.len : Int)))) = !(sndB tags d tag (i0, i1)) := by
      unfold sndB
      cases decide (i1 < i0) <;> cases (decide (0 ≤ tag) && decide (tag < tags)) <;> cases (decide (0 ≤ tag) && decide (tag < (d.len : Int))) <;> rfl
    rw [e]
    refine ⟨hd, fun h => ?_, fun h => ?_⟩
    · have h : ¬ sndB tags d tag (i0, i1) = true := by simpa using h
      unfold sndL sndD
      rw [if_neg h, if_neg h]
      exact ⟨(show 0 + d.len ≤ d.len by simp), rfl, rfl, full _ rfl⟩
    · have h : sndB tags d tag (i0, i1) = true := by simpa using h
      have ht : 0 ≤ tag ∧ tag < d.len := by
        unfold sndB at h
        simp only [Bool.and_eq_true, decide_eq_true_eq] at h
        omega
      unfold sndL sndD
      rw [if_pos h, if_pos h]
      refine ⟨ht, ht, by omega, ?_, rfl, rfl, full _ (by simp; rfl)⟩
      show 0 + d.len ≤ (d.rows.set tag.toNat _).length
      rw [List.length_set]
      show 0 + d.rows.length ≤ d.rows.length
      omega
  · trivial
def hasJ (e : (Int × Int) × D) (q : D) (j : Nat) : Bool := (decide (0 ≤ (q.el j 0).toI) && decide ((q.el j 0).toI < e.2.len)) && (decide ((pr e.2 (q.el j 0).toI.toNat).1 ≤ (q.el j 1).toI) && decide ((q.el j 1).toI ≤ (pr e.2 (q.el j 0).toI.toNat).2))
def allQ (p : Nat → Bool) (m : Nat) : Bool := (List.range m).all p
theorem allQ_iff {p : Nat → Bool} {m : Nat} : allQ p m = true ↔ ∀ j, j < m → p j = true := by
  unfold allQ
  rw [List.all_eq_true]
  exact ⟨fun h j hj => h j (List.mem_range.2 hj), fun h j hj => h j (List.mem_range.1 hj)⟩
theorem allQ_no {p : Nat → Bool} {m j : Nat} (hj : j < m) (h : p j = false) : allQ p m = false := by
  cases e : allQ p m with
  | false => rfl
  | true => have := allQ_iff.1 e j hj; rw [h] at this; cases this
def hasQ (l h : Int) (d q : D) : Bool := allQ (hasJ ((l, h), d) q) q.len && (decide (l ≤ q.len) && decide ((q.len : Int) ≤ h))
def winI (a b : Int × Int) : Bool := decide (a.2 < a.1) || (decide (b.1 ≤ a.1) && decide (a.2 ≤ b.2))
def winE (a : Int × Int) (A : D) (b : Int × Int) (B : D) : Bool := if A.len = B.len then allQ (fun j => winI (pr A j) (pr B j)) A.len && winI a b else false
noncomputable def qhasS : FSpec := fun ds _ => match ds with
  | [.i l, .i h, .d d, .d q] => some { val := .one (.sc (.bool (.sym (hasQ l h d q)))), vc := [q.len ≤ 8796093022208, d.len ≤ 8796093022208] }
  | _ => none
noncomputable def qhasC : Con := con [elA, .sc (.rows 95)] qhasS
theorem qhas_ok : ConOK Try.prog 28 qhasC := by
  refine fn_ob tt_ok mixed Try.func28 rfl (fun _ _ => by kernel_rfl) (A := fun ds => ⟨fun _ => Cons.of [(52, qplaceC), (59, ihasC)], fun k => match k, ds with | 2, [.i l, .i h, .d d, .d q] => some { ι := Nat, pre := fun _ k => k ≤ q.len ∧ ∀ j, j < k → hasJ ((l, h), d) q j = true, μ := fun k => q.len + 1 - k, st := fun s k => famR s [(9, .one (.sc (.int .i64 (.sym ((k : Nat))))))] [1, 2, 4, 7, 8] [] [2] } | _, _ => none, fun _ => none⟩) (fun _ _ => (cons_cons qplace_ok (cons_cons ihas_ok cons_nil))) (by kernel_rfl) ?_
  intro ds fr
  unfold qhasS
  split
  · rename_i l h d q
    refine kmp (q := q.len ≤ (8796093022208 : Nat) →
 d.len ≤ (8796093022208 : Nat) →
 (∃ (i : Nat),
 (i ≤ q.len ∧ ∀ (j : Nat), j < i → hasJ ((l, h), d) q j = true) ∧
 (0 : Int) = (↑i : Int) ∧ q.rows = q.rows ∧ false = false ∧ q.rows = q.rows ∧ (↑q.len : Int) = (↑q.len : Int) ∧ l = l ∧ h = h ∧ d.rows = d.rows) ∧
 ∀ (i : Nat),
 (i ≤ q.len ∧ ∀ (j : Nat), j < i → hasJ ((l, h), d) q j = true) →
 (decide ((↑i : Int) < (↑q.len : Int)) = true →
 ((0 : Int) ≤ (↑i : Int) ∧ (↑i : Int) < (↑q.len : Int)) ∧
 ((!(decide ((0 : Int) ≤ (q.el (↑i : Int).toNat (0 : Nat)).toI) && decide ((q.el (↑i : Int).toNat (0 : Nat)).toI < (↑d.len : Int)))) = false ∧
 True →
 (0 : Int) ≤ (q.el (↑i : Int).toNat (0 : Nat)).toI ∧ (q.el (↑i : Int).toNat (0 : Nat)).toI < (↑d.len : Int)) ∧
 ((!(decide ((0 : Int) ≤ (q.el (↑i : Int).toNat (0 : Nat)).toI) && decide ((q.el (↑i : Int).toNat (0 : Nat)).toI < (↑d.len : Int))) ||
 !(decide ((d.el (q.el (↑i : Int).toNat (0 : Nat)).toI.toNat (0 : Nat)).toI ≤ (q.el (↑i : Int).toNat ((0 : Nat) + (1 : Nat))).toI) &&
 decide
 ((q.el (↑i : Int).toNat ((0 : Nat) + (1 : Nat))).toI ≤
 (d.el (q.el (↑i : Int).toNat (0 : Nat)).toI.toNat ((0 : Nat) + (1 : Nat))).toI))) =
 true →
 false = hasQ l h d q) ∧
 ((!(decide ((0 : Int) ≤ (q.el (↑i : Int).toNat (0 : Nat)).toI) && decide ((q.el (↑i : Int).toNat (0 : Nat)).toI < (↑d.len : Int))) ||
 !(decide ((d.el (q.el (↑i : Int).toNat (0 : Nat)).toI.toNat (0 : Nat)).toI ≤ (q.el (↑i : Int).toNat ((0 : Nat) + (1 : Nat))).toI) &&
 decide
 ((q.el (↑i : Int).toNat ((0 : Nat) + (1 : Nat))).toI ≤
 (d.el (q.el (↑i : Int).toNat (0 : Nat)).toI.toNat ((0 : Nat) + (1 : Nat))).toI))) =
 false →
 ∃ (j : Nat),
 (j ≤ q.len ∧ ∀ (j_1 : Nat), j_1 < j → hasJ ((l, h), d) q j_1 = true) ∧
 q.len + (1 : Nat) - j < q.len + (1 : Nat) - i ∧
 IntKind.i64.wrap ((↑i : Int) + (1 : Int)) = (↑j : Int) ∧
 q.rows = q.rows ∧ false = false ∧ q.rows = q.rows ∧ (↑q.len : Int) = (↑q.len : Int) ∧ l = l ∧ h = h ∧ d.rows = d.rows)) ∧
 (decide ((↑i : Int) < (↑q.len : Int)) = false → (decide (l ≤ (↑q.len : Int)) && decide ((↑q.len : Int) ≤ h)) = hasQ l h d q)) (by kernel_rfl) ?_
    intro hq hd
    simp only [Int.toNat_natCast]
    have ej : ∀ i, (!(decide (0 ≤ (q.el i 0).toI) && decide ((q.el i 0).toI < (d.len : Int))) || !(decide ((d.el (q.el i 0).toI.toNat 0).toI ≤ (q.el i (0 + 1)).toI) && decide ((q.el i (0 + 1)).toI ≤ (d.el (q.el i 0).toI.toNat (0 + 1)).toI))) = !(hasJ ((l, h), d) q i) := fun i => (Bool.not_and _ _).symm
    simp only [ej]
    refine ⟨⟨0, ⟨Nat.zero_le _, fun j hj => absurd hj (Nat.not_lt_zero j)⟩, rfl, ?_⟩, fun i hi => ⟨fun c => ?_, fun c => ?_⟩⟩
    · (repeat' apply And.intro) <;> first | rfl | trivial
    · have c : i < q.len := by simpa using c
      refine ⟨by omega, fun x => ?_, fun x => ?_, fun x => ⟨i + 1, ⟨by omega, fun j hj => ?_⟩, by omega, wr _ (by omega), ?_⟩⟩
      · have x := x.1
        simp only [Bool.not_eq_false', Bool.and_eq_true, decide_eq_true_eq] at x
        exact x
      · have x : hasJ ((l, h), d) q i = false := by simpa using x
        unfold hasQ
        rw [allQ_no c x]; rfl
      · have x : hasJ ((l, h), d) q i = true := by simpa using x
        by_cases hji : j < i
        · exact hi.2 j hji
        · rw [show j = i by omega]; exact x
      · (repeat' apply And.intro) <;> first | rfl | trivial
    · have c : ¬ i < q.len := by simpa using c
      unfold hasQ
      rw [allQ_iff.2 fun j hj => hi.2 j (by omega)]; rfl
  · trivial
noncomputable def qwithinS : FSpec := fun ds _ => match ds with
  | [.i l, .i h, .d d, .i l2, .i h2, .d d2] => some { val := .one (.sc (.bool (.sym (winE (l, h) d (l2, h2) d2)))), vc := [d.len ≤ 8796093022208] }
  | _ => none
noncomputable def qwithinC : Con := con [elA, elA] qwithinS
end Go.Proofs.Ytdagadcflignfaa.Sx.Z
namespace Go.Proofs.Ytdagadcflignfaa
open Go.RowKit

theorem blk_lt {W : World} {b : Nat} {x : Obj} (h : W.heap[b]? = some x) : b < W.heap.size := by
  rcases Nat.lt_or_ge b W.heap.size with h1 | h1
  · exact h1
  · rw [Array.getElem?_eq_none h1] at h; cases h
theorem blkA (W : World) (x : Obj) {b : Nat} (h : W.heap.size = b) : (W.alloc x).heap[b]? = some x := by
  subst h
  exact heap_alloc_new W x
theorem blk_keep {W W1 : World} {b : Nat} {x : Obj} (hb : Below W.heap.size W W1) (h : W.heap[b]? = some x) : W1.heap[b]? = some x := (hb.block b (blk_lt h)).trans h
theorem blkUp {W : World} {b : Nat} {x : Obj} (h : W.heap[b]? = some x) (ob : Obj) : (W.alloc ob).heap[b]? = some x := blk_keep ((Below.refl _ W).alloc (Nat.le_refl _) ob) h
theorem row_of {W : World} {b : Nat} {R : Array Value} {t : TypeId} {fr : Nat × Nat} (h : W.heap[b]? = some (.cells R t fr)) : ∀ o, W.cell? ⟨b, o, none⟩ = R[o]? := fun o => cell_of_row W b o R t fr h
theorem frozen_of {W : World} {b : Nat} {R : Array Value} {t : TypeId} (h : W.heap[b]? = some (.cells R t (0, 0))) (o : Nat) : W.frozen? ⟨b, o, none⟩ = false := by simp [World.frozen?, h]
theorem wp_world {P : Program} {c : Code} {Q : Exit → Act → World → Prop} {a : Act} {w : World} (F : World → Prop) (hF : F w) (h : ∀ W, F W → c.wp P Q a W) : c.wp P Q a w := h w hF

theorem blk_set {W : World} {b g o : Nat} {x : Obj} {v : Value} (h : W.heap[b]? = some x) (hne : b ≠ g) : (W.setCell ⟨g, o, none⟩ v).heap[b]? = some x := by
  rw [Below.heap_setCell _ _ _ _ hne]
  exact h
theorem seta {W : World} {n : Nat} {t : TypeId} {a b v : Value} (h : W.heap[n]? = some (.cells #[a, b] t (0, 0))) : (W.setCell ⟨n, 0, none⟩ v).heap[n]? = some (.cells #[v, b] t (0, 0)) := by simp [World.setCell, Array.getElem?_modify, h]
theorem setb {W : World} {n : Nat} {t : TypeId} {a b v : Value} (h : W.heap[n]? = some (.cells #[a, b] t (0, 0))) : (W.setCell ⟨n, 1, none⟩ v).heap[n]? = some (.cells #[a, v] t (0, 0)) := by simp [World.setCell, Array.getElem?_modify, h]
/-- A pair is stored into a block: the block, all others. -/
theorem put2 {W WF : World} {n : Nat} {t : TypeId} {d0 d1 : Value} (h : W.heap[n]? = some (.cells #[d0, d1] t (0, 0))) (v0 v1 : Value) (hW : WF = (W.setCell ⟨n, 0, none⟩ v0).setCell ⟨n, 1, none⟩ v1) :
    WF.heap[n]? = some (.cells #[v0, v1] t (0, 0)) ∧ (∀ (b : Nat) (x : Obj), b ≠ n → W.heap[b]? = some x → WF.heap[b]? = some x) ∧ (∀ B, B ≤ n → Below B W WF) ∧ WF.heap.size = W.heap.size := by
  subst hW
  refine ⟨by simp [World.setCell, Array.getElem?_modify, h], fun b x hb hx => blk_set (blk_set hx hb) hb, fun B hB => ?_, by simp [World.setCell]⟩
  exact ((Below.refl _ W).setCell (p := ⟨n, 0, none⟩) hB v0).setCell (p := ⟨n, 1, none⟩) hB v1

/-- The empty one is from 1 to 0. -/
def nrm (l h : Int) : Int × Int := if h < l then (1, 0) else (l, h)
/-- The greater one, the lesser one: as the language's words reckon them. -/
def mx (x y : Int) : Int := if x < y then y else x
def mn (x y : Int) : Int := if y < x then y else x
/-- Those from one to another one that a variable may be. -/
def ofP (l h : Int) : Int × Int := nrm (mx l (-2147483648)) (mn h 2147483647)

theorem empty_any (l h : Int) (w : World) :
    Calls Try.prog 51 #[.agg #[.int .i64 l, .int .i64 h]] w fun e w' => e = .returned (.bool (decide (h < l))) ∧ Below w.heap.size w w' := by
  go_enter Try.func51, Try.ntmps51
  go_wp2
  go_ret
  exact ⟨by simp, by go_grown⟩

theorem none_any (w : World) :
    Calls Try.prog 48 #[] w fun e w' => e = .returned (.agg #[.int .i64 1, .int .i64 0]) ∧ Below w.heap.size w w' := by
  go_enter Try.func48, Try.ntmps48
  go_wp2
  exact bodyPost_ret (v := .agg #[.int .i64 1, .int .i64 0]) (by simp [results, Try.results48, go_sem]) rfl ⟨rfl, by go_grown⟩

theorem wrap_in (l : Int) : -2147483648 ≤ wrap32 l ∧ wrap32 l ≤ 2147483647 := by unfold wrap32; omega
theorem wrap_wrap (l : Int) : wrap64 (wrap32 l) = wrap32 l := by unfold wrap64 wrap32; omega

theorem has_any (l h n : Int) (w : World) :
    Calls Try.prog 59 #[.agg #[.int .i64 l, .int .i64 h], .int .i64 n] w fun e w' => e = .returned (.bool (decide (l ≤ n ∧ n ≤ h))) ∧ Below w.heap.size w w' := by
  by_cases hc : l ≤ n
  · have hd := decide_eq_true hc
    go_enter Try.func59, Try.ntmps59
    go_wp2
    go_ret
    exact ⟨by simp [hc], by go_grown⟩
  · have hd := decide_eq_false hc
    go_enter Try.func59, Try.ntmps59
    go_wp2
    go_ret
    exact ⟨by simp, by go_grown⟩

theorem of_gen (l h L H : Int) (hL : (if l < -2147483648 then -2147483648 else l) = L) (hH : (if 2147483647 < h then 2147483647 else h) = H) (w : World) :
    Calls Try.prog 53 #[.int .i64 l, .int .i64 h] w fun e w' => e = .returned (.agg #[.int .i64 (nrm L H).1, .int .i64 (nrm L H).2]) ∧ Below w.heap.size w w' := by
  go_enter Try.func53, Try.ntmps53
  go_upto_region 2 with fail
  refine wp_world (fun W => W.heap[w.heap.size]? = some (.cells #[.int .i64 0, .int .i64 0] 82 (0, 0)) ∧ W.heap[w.heap.size + 1]? = some (.cells #[.int .i64 L, .int .i64 H] 82 (0, 0)) ∧ Below w.heap.size w W) ⟨blkUp (blkA _ _ rfl) _, blkA _ _ (by simp), ((Below.refl _ _).alloc (Nat.le_refl _) _).alloc (by simp) _⟩ ?_
  clear hL hH
  rintro w1 ⟨k0, k1, hB1⟩
  have z0 := blk_lt k0
  have z1 := blk_lt k1
  have r1 := row_of k1
  go_wp2_with fail
  refine (empty_any _ _ _).mono ?_
  rintro e w2 ⟨rfl, hb2⟩
  replace k0 := blk_keep hb2 k0
  replace k1 := blk_keep hb2 k1
  have hB2 := hB1.trans (hb2.mono hB1.size)
  clear hb2 hB1 r1 z0 z1
  have r0 := row_of k0
  have r1 := row_of k1
  have f0 := frozen_of k0
  have z0 := blk_lt k0
  have z1 := blk_lt k1
  by_cases hc : H < L
  · have hd := decide_eq_true hc
    go_wp2_with fail
    refine (none_any _).mono ?_
    rintro e w3 ⟨rfl, hb3⟩
    replace k0 := blk_keep hb3 k0
    have hB3 := hB2.trans (hb3.mono hB2.size)
    clear hb3 hB2 r0 r1 z0 z1 k1 f0
    have r0 := row_of k0
    have f0 := frozen_of k0
    have z0 := blk_lt k0
    go_wp2_with fail
    generalize hWF : (World.setCell (World.setCell _ _ _) _ _) = WF
    obtain ⟨kF, _, bF, _⟩ := put2 k0 _ _ hWF.symm
    clear hWF
    have rF := row_of kF
    exact bodyPost_ret (v := .agg #[.int .i64 (nrm L H).1, .int .i64 (nrm L H).2]) (by simp [results, Try.results53, go_sem, rF, nrm, hc]) rfl ⟨rfl, hB3.trans (bF _ (Nat.le_refl _))⟩
  · have hd := decide_eq_false hc
    have hn : nrm L H = (L, H) := if_neg hc
    go_wp2_with fail
    generalize hWF : (World.setCell (World.setCell _ _ _) _ _) = WF
    obtain ⟨kF, _, bF, _⟩ := put2 k0 _ _ hWF.symm
    clear hWF
    have rF := row_of kF
    exact bodyPost_ret (v := .agg #[.int .i64 L, .int .i64 H]) (by simp [results, Try.results53, go_sem, rF]) rfl ⟨by rw [hn], hB2.trans (bF _ (Nat.le_refl _))⟩

theorem of_any (l h : Int) (w : World) :
    Calls Try.prog 53 #[.int .i64 l, .int .i64 h] w fun e w' => e = .returned (.agg #[.int .i64 (ofP l h).1, .int .i64 (ofP l h).2]) ∧ Below w.heap.size w w' := of_gen l h _ _ rfl rfl w
theorem const_any (n : Int) (w : World) :
    Calls Try.prog 25 #[.int .i64 n] w fun e w' => e = .returned (.agg #[.int .i64 (ofP n n).1, .int .i64 (ofP n n).2]) ∧ Below w.heap.size w w' := by
  go_enter Try.func25, Try.ntmps25
  go_upto_region 1 with fail
  refine wp_world (fun W => W.heap[w.heap.size]? = some (.cells #[.int .i64 0, .int .i64 0] 82 (0, 0)) ∧ Below w.heap.size w W) ⟨blkA _ _ rfl, (Below.refl _ _).alloc (Nat.le_refl _) _⟩ ?_
  rintro w1 ⟨k0, hB1⟩
  go_wp2_with fail
  refine (of_any _ _ _).mono ?_
  rintro e w2 ⟨rfl, hb2⟩
  replace k0 := blk_keep hb2 k0
  have hB2 := hB1.trans (hb2.mono hB1.size)
  have r0 := row_of k0
  have f0 := frozen_of k0
  have z0 := blk_lt k0
  go_wp2_with fail
  generalize hWF : (World.setCell (World.setCell _ _ _) _ _) = WF
  obtain ⟨kF, _, bF, _⟩ := put2 k0 _ _ hWF.symm
  clear hWF
  have rF := row_of kF
  exact bodyPost_ret (v := .agg #[.int .i64 (ofP n n).1, .int .i64 (ofP n n).2]) (by simp [results, Try.results25, go_sem, rF]) rfl ⟨rfl, hB2.trans (bF _ (Nat.le_refl _))⟩
end Go.Proofs.Ytdagadcflignfaa
namespace Go.Proofs.Ytdagadcflignfaa
open Go.RowKit

def withinB (a0 a1 b0 b1 : Int) : Bool := decide (a1 < a0) || (decide (b0 ≤ a0) && decide (a1 ≤ b1))
def joinP (a0 a1 b0 b1 : Int) : Int × Int := if a1 < a0 then ofP b0 b1 else if b1 < b0 then ofP a0 a1 else ofP (mn a0 b0) (mx a1 b1)
def meetP (a0 a1 b0 b1 : Int) : Int × Int := ofP (mx a0 b0) (mn a1 b1)
def widenP (a0 a1 b0 b1 : Int) : Int × Int := if a1 < a0 ∨ b1 < b0 then joinP a0 a1 b0 b1 else (if b0 < a0 then -2147483648 else (joinP a0 a1 b0 b1).1, if a1 < b1 then 2147483647 else (joinP a0 a1 b0 b1).2)
def narrowP (a0 a1 b0 b1 : Int) : Int × Int := if a1 < a0 ∨ b1 < b0 then (1, 0) else ofP (if a0 = -2147483648 then b0 else a0) (if a1 = 2147483647 then b1 else a1)
def rjoinP (a0 a1 b0 b1 : Int) : Int × Int := if a1 < a0 then nrm b0 b1 else if b1 < b0 then (a0, a1) else (mn a0 b0, mx a1 b1)
def rwidenP (a0 a1 b0 b1 : Int) : Int × Int := if a1 < a0 then nrm b0 b1 else if b1 < b0 then (a0, a1) else (if b0 < a0 then -2147483648 else a0, if a1 < b1 then 2147483647 else a1)
def rnarrowP (a0 a1 b0 b1 : Int) : Int × Int := if a1 < a0 ∨ b1 < b0 then (1, 0) else nrm (if a0 = -2147483648 then b0 else a0) (if a1 = 2147483647 then b1 else a1)

theorem join_1 (a0 a1 b0 b1 : Int) (w : World) (h : a1 < a0) :
    Calls Try.prog 55 #[.agg #[.int .i64 a0, .int .i64 a1], .agg #[.int .i64 b0, .int .i64 b1]] w fun e w' => e = .returned (.agg #[.int .i64 (ofP b0 b1).1, .int .i64 (ofP b0 b1).2]) ∧ Below w.heap.size w w' := by
  go_enter Try.func55, Try.ntmps55
  go_upto_region 1 with fail
  refine wp_world (fun W => W.heap[w.heap.size]? = some (.cells #[.int .i64 a0, .int .i64 a1] 82 (0, 0)) ∧ W.heap[w.heap.size + 1]? = some (.cells #[.int .i64 b0, .int .i64 b1] 82 (0, 0)) ∧ W.heap[w.heap.size + 2]? = some (.cells #[.int .i64 0, .int .i64 0] 82 (0, 0)) ∧ Below w.heap.size w W) ⟨blkUp (blkUp (blkA _ _ (by first | rfl | simp only [World.size_alloc])) _) _, blkUp (blkA _ _ (by first | rfl | simp only [World.size_alloc])) _, blkA _ _ (by first | rfl | simp only [World.size_alloc]), (((Below.refl _ _).alloc (by first | exact Nat.le_refl _ | (simp only [World.size_alloc]; omega)) _).alloc (by first | exact Nat.le_refl _ | (simp only [World.size_alloc]; omega)) _).alloc (by first | exact Nat.le_refl _ | (simp only [World.size_alloc]; omega)) _⟩ ?_
  rintro w1 ⟨k0, k1, k2, hB⟩
  have r0 := row_of k0
  have f0 := frozen_of k0
  have z0 := blk_lt k0
  have r1 := row_of k1
  have f1 := frozen_of k1
  have z1 := blk_lt k1
  have r2 := row_of k2
  have f2 := frozen_of k2
  have z2 := blk_lt k2
  have hd : decide (a1 < a0) = true := by simp; omega
  go_wp2_with fail
  refine (empty_any _ _ _).mono ?_
  rintro e w2 ⟨rfl, hb⟩
  replace k0 := blk_keep hb k0
  replace k1 := blk_keep hb k1
  replace k2 := blk_keep hb k2
  replace hB := hB.trans (hb.mono hB.size)
  clear r0 f0 z0 r1 f1 z1 r2 f2 z2
  clear hb
  have r0 := row_of k0
  have f0 := frozen_of k0
  have z0 := blk_lt k0
  have r1 := row_of k1
  have f1 := frozen_of k1
  have z1 := blk_lt k1
  have r2 := row_of k2
  have f2 := frozen_of k2
  have z2 := blk_lt k2
  go_wp2_with fail
  refine (of_any _ _ _).mono ?_
  rintro e w3 ⟨rfl, hb⟩
  replace k0 := blk_keep hb k0
  replace k1 := blk_keep hb k1
  replace k2 := blk_keep hb k2
  replace hB := hB.trans (hb.mono hB.size)
  clear r0 f0 z0 r1 f1 z1 r2 f2 z2
  clear hb
  have r0 := row_of k0
  have f0 := frozen_of k0
  have z0 := blk_lt k0
  have r1 := row_of k1
  have f1 := frozen_of k1
  have z1 := blk_lt k1
  have r2 := row_of k2
  have f2 := frozen_of k2
  have z2 := blk_lt k2
  go_wp2_with fail
  generalize hWF : (World.setCell (World.setCell _ _ _) _ _) = WF
  obtain ⟨kF, _, bF, _⟩ := put2 k2 _ _ hWF.symm
  clear r0 f0 z0 r1 f1 z1 r2 f2 z2
  clear hWF
  have rF := row_of kF
  exact bodyPost_ret (v := .agg #[.int .i64 (ofP b0 b1).1, .int .i64 (ofP b0 b1).2]) (by simp [results, Try.results55, go_sem, rF]) rfl ⟨rfl, hB.trans (bF _ (by show w.heap.size ≤ w.heap.size + 2; omega))⟩
theorem join_2 (a0 a1 b0 b1 : Int) (w : World) (h : a0 ≤ a1) (h2 : b1 < b0) :
    Calls Try.prog 55 #[.agg #[.int .i64 a0, .int .i64 a1], .agg #[.int .i64 b0, .int .i64 b1]] w fun e w' => e = .returned (.agg #[.int .i64 (ofP a0 a1).1, .int .i64 (ofP a0 a1).2]) ∧ Below w.heap.size w w' := by
  go_enter Try.func55, Try.ntmps55
  go_upto_region 1 with fail
  refine wp_world (fun W => W.heap[w.heap.size]? = some (.cells #[.int .i64 a0, .int .i64 a1] 82 (0, 0)) ∧ W.heap[w.heap.size + 1]? = some (.cells #[.int .i64 b0, .int .i64 b1] 82 (0, 0)) ∧ W.heap[w.heap.size + 2]? = some (.cells #[.int .i64 0, .int .i64 0] 82 (0, 0)) ∧ Below w.heap.size w W) ⟨blkUp (blkUp (blkA _ _ (by first | rfl | simp only [World.size_alloc])) _) _, blkUp (blkA _ _ (by first | rfl | simp only [World.size_alloc])) _, blkA _ _ (by first | rfl | simp only [World.size_alloc]), (((Below.refl _ _).alloc (by first | exact Nat.le_refl _ | (simp only [World.size_alloc]; omega)) _).alloc (by first | exact Nat.le_refl _ | (simp only [World.size_alloc]; omega)) _).alloc (by first | exact Nat.le_refl _ | (simp only [World.size_alloc]; omega)) _⟩ ?_
  rintro w1 ⟨k0, k1, k2, hB⟩
  have r0 := row_of k0
  have f0 := frozen_of k0
  have z0 := blk_lt k0
  have r1 := row_of k1
  have f1 := frozen_of k1
  have z1 := blk_lt k1
  have r2 := row_of k2
  have f2 := frozen_of k2
  have z2 := blk_lt k2
  have hd : decide (a1 < a0) = false := by simp; omega
  have hd2 : decide (b1 < b0) = true := by simp; omega
  go_wp2_with fail
  refine (empty_any _ _ _).mono ?_
  rintro e w2 ⟨rfl, hb⟩
  replace k0 := blk_keep hb k0
  replace k1 := blk_keep hb k1
  replace k2 := blk_keep hb k2
  replace hB := hB.trans (hb.mono hB.size)
  clear r0 f0 z0 r1 f1 z1 r2 f2 z2
  clear hb
  have r0 := row_of k0
  have f0 := frozen_of k0
  have z0 := blk_lt k0
  have r1 := row_of k1
  have f1 := frozen_of k1
  have z1 := blk_lt k1
  have r2 := row_of k2
  have f2 := frozen_of k2
  have z2 := blk_lt k2
  go_wp2_with fail
  refine (empty_any _ _ _).mono ?_
  rintro e w3 ⟨rfl, hb⟩
  replace k0 := blk_keep hb k0
  replace k1 := blk_keep hb k1
  replace k2 := blk_keep hb k2
  replace hB := hB.trans (hb.mono hB.size)
  clear r0 f0 z0 r1 f1 z1 r2 f2 z2
  clear hb
  have r0 := row_of k0
  have f0 := frozen_of k0
  have z0 := blk_lt k0
  have r1 := row_of k1
  have f1 := frozen_of k1
  have z1 := blk_lt k1
  have r2 := row_of k2
  have f2 := frozen_of k2
  have z2 := blk_lt k2
  go_wp2_with fail
  refine (of_any _ _ _).mono ?_
  rintro e w4 ⟨rfl, hb⟩
  replace k0 := blk_keep hb k0
  replace k1 := blk_keep hb k1
  replace k2 := blk_keep hb k2
  replace hB := hB.trans (hb.mono hB.size)
  clear r0 f0 z0 r1 f1 z1 r2 f2 z2
  clear hb
  have r0 := row_of k0
  have f0 := frozen_of k0
  have z0 := blk_lt k0
  have r1 := row_of k1
  have f1 := frozen_of k1
  have z1 := blk_lt k1
  have r2 := row_of k2
  have f2 := frozen_of k2
  have z2 := blk_lt k2
  go_wp2_with fail
  generalize hWF : (World.setCell (World.setCell _ _ _) _ _) = WF
  obtain ⟨kF, _, bF, _⟩ := put2 k2 _ _ hWF.symm
  clear r0 f0 z0 r1 f1 z1 r2 f2 z2
  clear hWF
  have rF := row_of kF
  exact bodyPost_ret (v := .agg #[.int .i64 (ofP a0 a1).1, .int .i64 (ofP a0 a1).2]) (by simp [results, Try.results55, go_sem, rF]) rfl ⟨rfl, hB.trans (bF _ (by show w.heap.size ≤ w.heap.size + 2; omega))⟩
theorem join_3 (a0 a1 b0 b1 : Int) (w : World) (h : a0 ≤ a1) (h2 : b0 ≤ b1) :
    Calls Try.prog 55 #[.agg #[.int .i64 a0, .int .i64 a1], .agg #[.int .i64 b0, .int .i64 b1]] w fun e w' => e = .returned (.agg #[.int .i64 (ofP (mn a0 b0) (mx a1 b1)).1, .int .i64 (ofP (mn a0 b0) (mx a1 b1)).2]) ∧ Below w.heap.size w w' := by
  go_enter Try.func55, Try.ntmps55
  go_upto_region 1 with fail
  refine wp_world (fun W => W.heap[w.heap.size]? = some (.cells #[.int .i64 a0, .int .i64 a1] 82 (0, 0)) ∧ W.heap[w.heap.size + 1]? = some (.cells #[.int .i64 b0, .int .i64 b1] 82 (0, 0)) ∧ W.heap[w.heap.size + 2]? = some (.cells #[.int .i64 0, .int .i64 0] 82 (0, 0)) ∧ Below w.heap.size w W) ⟨blkUp (blkUp (blkA _ _ (by first | rfl | simp only [World.size_alloc])) _) _, blkUp (blkA _ _ (by first | rfl | simp only [World.size_alloc])) _, blkA _ _ (by first | rfl | simp only [World.size_alloc]), (((Below.refl _ _).alloc (by first | exact Nat.le_refl _ | (simp only [World.size_alloc]; omega)) _).alloc (by first | exact Nat.le_refl _ | (simp only [World.size_alloc]; omega)) _).alloc (by first | exact Nat.le_refl _ | (simp only [World.size_alloc]; omega)) _⟩ ?_
  rintro w1 ⟨k0, k1, k2, hB⟩
  have r0 := row_of k0
  have f0 := frozen_of k0
  have z0 := blk_lt k0
  have r1 := row_of k1
  have f1 := frozen_of k1
  have z1 := blk_lt k1
  have r2 := row_of k2
  have f2 := frozen_of k2
  have z2 := blk_lt k2
  have hd : decide (a1 < a0) = false := by simp; omega
  have hd2 : decide (b1 < b0) = false := by simp; omega
  go_wp2_with fail
  refine (empty_any _ _ _).mono ?_
  rintro e w2 ⟨rfl, hb⟩
  replace k0 := blk_keep hb k0
  replace k1 := blk_keep hb k1
  replace k2 := blk_keep hb k2
  replace hB := hB.trans (hb.mono hB.size)
  clear r0 f0 z0 r1 f1 z1 r2 f2 z2
  clear hb
  have r0 := row_of k0
  have f0 := frozen_of k0
  have z0 := blk_lt k0
  have r1 := row_of k1
  have f1 := frozen_of k1
  have z1 := blk_lt k1
  have r2 := row_of k2
  have f2 := frozen_of k2
  have z2 := blk_lt k2
  go_wp2_with fail
  refine (empty_any _ _ _).mono ?_
  rintro e w3 ⟨rfl, hb⟩
  replace k0 := blk_keep hb k0
  replace k1 := blk_keep hb k1
  replace k2 := blk_keep hb k2
  replace hB := hB.trans (hb.mono hB.size)
  clear r0 f0 z0 r1 f1 z1 r2 f2 z2
  clear hb
  have r0 := row_of k0
  have f0 := frozen_of k0
  have z0 := blk_lt k0
  have r1 := row_of k1
  have f1 := frozen_of k1
  have z1 := blk_lt k1
  have r2 := row_of k2
  have f2 := frozen_of k2
  have z2 := blk_lt k2
  have hm : (if b0 < a0 then b0 else a0) = mn a0 b0 := rfl
  have hM : (if a1 < b1 then b1 else a1) = mx a1 b1 := rfl
  go_wp2_with fail
  refine (of_any _ _ _).mono ?_
  rintro e w4 ⟨rfl, hb⟩
  replace k0 := blk_keep hb k0
  replace k1 := blk_keep hb k1
  replace k2 := blk_keep hb k2
  replace hB := hB.trans (hb.mono hB.size)
  clear r0 f0 z0 r1 f1 z1 r2 f2 z2
  clear hb
  have r0 := row_of k0
  have f0 := frozen_of k0
  have z0 := blk_lt k0
  have r1 := row_of k1
  have f1 := frozen_of k1
  have z1 := blk_lt k1
  have r2 := row_of k2
  have f2 := frozen_of k2
  have z2 := blk_lt k2
  go_wp2_with fail
  generalize hWF : (World.setCell (World.setCell _ _ _) _ _) = WF
  obtain ⟨kF, _, bF, _⟩ := put2 k2 _ _ hWF.symm
  clear r0 f0 z0 r1 f1 z1 r2 f2 z2
  clear hWF
  have rF := row_of kF
  exact bodyPost_ret (v := .agg #[.int .i64 (ofP (mn a0 b0) (mx a1 b1)).1, .int .i64 (ofP (mn a0 b0) (mx a1 b1)).2]) (by simp [results, Try.results55, go_sem, rF]) rfl ⟨rfl, hB.trans (bF _ (by show w.heap.size ≤ w.heap.size + 2; omega))⟩
theorem join_any (a0 a1 b0 b1 : Int) (w : World) :
    Calls Try.prog 55 #[.agg #[.int .i64 a0, .int .i64 a1], .agg #[.int .i64 b0, .int .i64 b1]] w fun e w' => e = .returned (.agg #[.int .i64 (joinP a0 a1 b0 b1).1, .int .i64 (joinP a0 a1 b0 b1).2]) ∧ Below w.heap.size w w' := by
  unfold joinP
  by_cases h : a1 < a0
  · simpa [h] using join_1 a0 a1 b0 b1 w h
  · by_cases h2 : b1 < b0
    · simpa [h, h2] using join_2 a0 a1 b0 b1 w (by omega) h2
    · simpa [h, h2] using join_3 a0 a1 b0 b1 w (by omega) (by omega)
end Go.Proofs.Ytdagadcflignfaa
namespace Go.Proofs.Ytdagadcflignfaa
open Go.RowKit
/-- Two pairs are stored, each into a block. -/
theorem put22 {W WF : World} {n m : Nat} {t u : TypeId} {d0 d1 c0 c1 : Value} (hne : n ≠ m) (h : W.heap[n]? = some (.cells #[d0, d1] t (0, 0))) (g : W.heap[m]? = some (.cells #[c0, c1] u (0, 0))) (v0 v1 u0 u1 : Value) (hW : WF = (((W.setCell ⟨n, 0, none⟩ v0).setCell ⟨n, 1, none⟩ v1).setCell ⟨m, 0, none⟩ u0).setCell ⟨m, 1, none⟩ u1) :
    WF.heap[n]? = some (.cells #[v0, v1] t (0, 0)) ∧ WF.heap[m]? = some (.cells #[u0, u1] u (0, 0)) ∧ (∀ B, B ≤ n → B ≤ m → Below B W WF) := by
  obtain ⟨h1, h2, h3, _⟩ := put2 h v0 v1 rfl
  have g1 := h2 m _ (Ne.symm hne) g
  obtain ⟨g2, g3, g4, _⟩ := put2 g1 u0 u1 hW
  exact ⟨g3 n _ hne h1, g2, fun B b1 b2 => (h3 B b1).trans (g4 B b2)⟩

def bot (f : Int → Int → Int) (a0 a1 b0 b1 : Int) : Int := mn (mn (mn (f a0 b0) (f a0 b1)) (f a1 b0)) (f a1 b1)
def top (f : Int → Int → Int) (a0 a1 b0 b1 : Int) : Int := mx (mx (mx (f a0 b0) (f a0 b1)) (f a1 b0)) (f a1 b1)
def FnOk (n : Nat) (f : Int → Int → Int) (a0 a1 b0 b1 : Int) : Prop := ∀ (x y : Int) (w : World), (x = a0 ∨ x = a1) → (y = b0 ∨ y = b1) → Calls Try.prog n #[.int .i64 x, .int .i64 y] w fun e w' => e = .returned (.int .i64 (f x y)) ∧ w = w'

end Go.Proofs.Ytdagadcflignfaa
namespace Go.Proofs.Ytdagadcflignfaa
open Go.RowKit
theorem nrm_in (l h : Int) (hh : l ≤ h) : nrm l h = (l, h) := if_neg (by omega)
theorem ofP_in (l h : Int) (h1 : -2147483648 ≤ l) (h2 : h ≤ 2147483647) (hh : l ≤ h) : ofP l h = (l, h) := by
  unfold ofP mx mn
  rw [nrm_in _ _ (by split <;> split <;> omega)]
  congr 1 <;> split <;> omega
theorem const_in (n : Int) (w : World) (h1 : -2147483648 ≤ n) (h2 : n ≤ 2147483647) :
    Calls Try.prog 25 #[.int .i64 n] w fun e w' => e = .returned (.agg #[.int .i64 n, .int .i64 n]) ∧ Below w.heap.size w w' := by
  have h := const_any n w
  rwa [ofP_in n n h1 h2 (Int.le_refl n)] at h
theorem of_in (l h : Int) (w : World) (h1 : -2147483648 ≤ l) (h2 : h ≤ 2147483647) (hh : l ≤ h) :
    Calls Try.prog 53 #[.int .i64 l, .int .i64 h] w fun e w' => e = .returned (.agg #[.int .i64 l, .int .i64 h]) ∧ Below w.heap.size w w' := by
  have h := of_any l h w
  rwa [ofP_in l _ h1 h2 hh] at h

/-- Two cells of a block, and how many blocks there are. -/
theorem cells_keep {n m : Nat} {a b : Value} {W W' : World} (h : W.cell? ⟨n, 0, none⟩ = some a ∧ W.cell? ⟨n, 1, none⟩ = some b ∧ n + m + 1 ≤ W.heap.size) (hB : Below W.heap.size W W') : W'.cell? ⟨n, 0, none⟩ = some a ∧ W'.cell? ⟨n, 1, none⟩ = some b ∧ n + m + 1 ≤ W'.heap.size :=
  ⟨(hB.cell (p := ⟨n, 0, none⟩) (by show n < _; omega)).trans h.1, (hB.cell (p := ⟨n, 1, none⟩) (by show n < _; omega)).trans h.2.1, Nat.le_trans h.2.2 hB.size⟩
theorem cells_put {n m k : Nat} {a b u v : Value} {W : World} (h : W.cell? ⟨n, 0, none⟩ = some a ∧ W.cell? ⟨n, 1, none⟩ = some b ∧ n + m + 1 ≤ W.heap.size) (hk : n < k) : ((W.setCell ⟨k, 0, none⟩ u).setCell ⟨k, 1, none⟩ v).cell? ⟨n, 0, none⟩ = some a ∧ ((W.setCell ⟨k, 0, none⟩ u).setCell ⟨k, 1, none⟩ v).cell? ⟨n, 1, none⟩ = some b ∧ n + m + 1 ≤ ((W.setCell ⟨k, 0, none⟩ u).setCell ⟨k, 1, none⟩ v).heap.size := by
  have hB : Below k W ((W.setCell ⟨k, 0, none⟩ u).setCell ⟨k, 1, none⟩ v) := ((Below.refl _ W).setCell (p := ⟨k, 0, none⟩) (Nat.le_refl k) u).setCell (p := ⟨k, 1, none⟩) (Nat.le_refl k) v
  exact ⟨(hB.cell (p := ⟨n, 0, none⟩) hk).trans h.1, (hB.cell (p := ⟨n, 1, none⟩) hk).trans h.2.1, Nat.le_trans h.2.2 hB.size⟩

def S4 (n : Nat) (W : World) : Prop := W.cell? ⟨n, 0, none⟩ = some (.int .i64 2147483647) ∧ W.cell? ⟨n, 1, none⟩ = some (.int .i64 2147483647) ∧ W.cell? ⟨n + 1, 0, none⟩ = some (.bool true) ∧ W.cell? ⟨n + 1, 1, none⟩ = some (.bool false) ∧ n + 1 < W.heap.size
theorem cells4_keep {n : Nat} {W W' : World} (h : S4 n W) (hB : Below W.heap.size W W') : S4 n W' :=
  ⟨(hB.cell (p := ⟨n, 0, none⟩) (Nat.lt_of_succ_lt h.2.2.2.2)).trans h.1, (hB.cell (p := ⟨n, 1, none⟩) (Nat.lt_of_succ_lt h.2.2.2.2)).trans h.2.1, (hB.cell (p := ⟨n + 1, 0, none⟩) h.2.2.2.2).trans h.2.2.1, (hB.cell (p := ⟨n + 1, 1, none⟩) h.2.2.2.2).trans h.2.2.2.1, Nat.lt_of_lt_of_le h.2.2.2.2 hB.size⟩
end Go.Proofs.Ytdagadcflignfaa
namespace Go.Proofs.Ytdagadcflignfaa
open Go.RowKit
theorem isPlace_any (at' count : Int) (w : World) : Calls Try.prog 52 #[.int .i64 at', .int .i64 count] w fun e w' => e = .returned (.bool (decide (0 ≤ at' ∧ at' < count))) ∧ w = w' := by
  by_cases h : 0 ≤ at'
  · have hd := decide_eq_true h
    go_enter Try.func52, Try.ntmps52
    go_wp2
    go_ret
    exact ⟨by simp [h], rfl⟩
  · have hd := decide_eq_false h
    go_enter Try.func52, Try.ntmps52
    go_wp2
    go_ret
    exact ⟨by simp, rfl⟩
/-- One more, as long as there is one. -/
def moreP (n most : Int) : Int := if n < most then n + 1 else most
theorem oneMore_any (n most : Int) (w : World) (h1 : -9223372036854775808 ≤ n) (h2 : most ≤ 9223372036854775807) : Calls Try.prog 54 #[.int .i64 n, .int .i64 most] w fun e w' => e = .returned (.int .i64 (moreP n most)) ∧ w = w' := by
  unfold moreP
  by_cases h : n < most
  · have hd := decide_eq_true h
    have b1 : n + 1 ≤ 9223372036854775807 := by omega
    rw [if_pos h]
    go_enter Try.func54, Try.ntmps54
    go_wp2
    go_ret
    exact ⟨by first | rfl | (simp; done) | (simp [wrap64]; omega), rfl⟩
  · have hd := decide_eq_false h
    rw [if_neg h]
    go_enter Try.func54, Try.ntmps54
    go_wp2
    go_ret
    exact ⟨rfl, rfl⟩
end Go.Proofs.Ytdagadcflignfaa
namespace Go.Proofs.Ytdagadcflignfaa
open Go.RowKit

theorem below_undrew {W W' : World} (h : Below W.drew.heap.size W.drew W') : Below W.heap.size W W' := (Below.refl _ W).drew.trans h
theorem below_al {W0 W : World} (h : Below W0.heap.size W0 W) (x : Obj) : Below W0.heap.size W0 (W.alloc x) := h.alloc h.size x
theorem below_tr {W0 W W' : World} (h : Below W0.heap.size W0 W) (hb : Below W.heap.size W W') : Below W0.heap.size W0 W' := h.trans (hb.mono h.size)
theorem below_put {W0 W : World} {g : Nat} {u v : Value} (h : Below W0.heap.size W0 W) (hg : W0.heap.size ≤ g) : Below W0.heap.size W0 ((W.setCell ⟨g, 0, none⟩ u).setCell ⟨g, 1, none⟩ v) := (h.setCell (p := ⟨g, 0, none⟩) hg u).setCell (p := ⟨g, 1, none⟩) hg v
theorem blkT1 {W W' : World} {x : Obj} (h : Below (W.alloc x).heap.size (W.alloc x) W') : W'.heap[W.heap.size]? = some x := blk_keep h (blkA W x rfl)
theorem blkT2a {W W' : World} {x y : Obj} (h : Below ((W.alloc x).alloc y).heap.size ((W.alloc x).alloc y) W') : W'.heap[W.heap.size]? = some x := blk_keep h (blkUp (blkA W x rfl) y)
theorem blkT2b {W W' : World} {x y : Obj} (h : Below ((W.alloc x).alloc y).heap.size ((W.alloc x).alloc y) W') : W'.heap[W.heap.size + 1]? = some y := blk_keep h (blkA (W.alloc x) y (by simp only [World.size_alloc]))
theorem setab {W : World} {n : Nat} {t : TypeId} {a b u v : Value} (h : W.heap[n]? = some (.cells #[a, b] t (0, 0))) : ((W.setCell ⟨n, 0, none⟩ u).setCell ⟨n, 1, none⟩ v).heap[n]? = some (.cells #[u, v] t (0, 0)) := (put2 h u v rfl).1
theorem setno {W : World} {n g : Nat} {x : Obj} {u v : Value} (h : W.heap[n]? = some x) (hne : n ≠ g) : ((W.setCell ⟨g, 0, none⟩ u).setCell ⟨g, 1, none⟩ v).heap[n]? = some x := blk_set (blk_set h hne) hne
/-- Two new blocks of two cells; all that was there is as it was. -/
def TwoCut (W0 : World) (t u : TypeId) (a b c d : Value) (e5 e6 : Value) (wx : World) : Prop := ∃ n m : Nat, e5 = .pointer (some ⟨n, 0, none⟩) ∧ e6 = .pointer (some ⟨m, 0, none⟩) ∧ n ≠ m ∧ W0.heap.size ≤ n ∧ W0.heap.size ≤ m ∧ wx.heap[n]? = some (.cells #[a, b] t (0, 0)) ∧ wx.heap[m]? = some (.cells #[c, d] u (0, 0)) ∧ Below W0.heap.size W0 wx
theorem four_of {W0 : World} {n m : Nat} {a b c d : Value} {t u : TypeId} (h : W0.heap[n]? = some (.cells #[a, b] t (0, 0))) (g : W0.heap[m]? = some (.cells #[c, d] u (0, 0))) (W : World) (hB : Below W0.heap.size W0 W) :
    W.cell? ⟨n, 0, none⟩ = some a ∧ W.cell? ⟨n, 1, none⟩ = some b ∧ W.cell? ⟨m, 0, none⟩ = some c ∧ W.cell? ⟨m, 1, none⟩ = some d := by
  have h' := blk_keep hB h
  have g' := blk_keep hB g
  exact ⟨row_of h' 0, row_of h' 1, row_of g' 0, row_of g' 1⟩
end Go.Proofs.Ytdagadcflignfaa
namespace Go.Proofs.Ytdagadcflignfaa
open Go.RowKit
theorem tr_B {B : Nat} {W0 W W' : World} (h : Below B W0 W) (hz : B ≤ W0.heap.size) (hb : Below W.heap.size W W') : Below B W0 W' := h.trans (hb.mono (Nat.le_trans hz h.size))
theorem put_B {B g : Nat} {W0 W : World} {u v : Value} (h : Below B W0 W) (hg : B ≤ g) : Below B W0 ((W.setCell ⟨g, 0, none⟩ u).setCell ⟨g, 1, none⟩ v) := (h.setCell (p := ⟨g, 0, none⟩) hg u).setCell (p := ⟨g, 1, none⟩) hg v
theorem four_B {B : Nat} {W0 : World} {n m : Nat} {a b c d : Value} {t u : TypeId} (h : W0.heap[n]? = some (.cells #[a, b] t (0, 0))) (g : W0.heap[m]? = some (.cells #[c, d] u (0, 0))) (hn : n < B) (hm : m < B) (W : World) (hB : Below B W0 W) :
    W.cell? ⟨n, 0, none⟩ = some a ∧ W.cell? ⟨n, 1, none⟩ = some b ∧ W.cell? ⟨m, 0, none⟩ = some c ∧ W.cell? ⟨m, 1, none⟩ = some d := by
  have h' := (hB.block n hn).trans h
  have g' := (hB.block m hm).trans g
  exact ⟨row_of h' 0, row_of h' 1, row_of g' 0, row_of g' 1⟩
end Go.Proofs.Ytdagadcflignfaa
namespace Go.Proofs.Ytdagadcflignfaa
open Go.RowKit
theorem blkP (W : World) (g : Nat) (u v : Value) (x : Obj) : (((W.setCell ⟨g, 0, none⟩ u).setCell ⟨g, 1, none⟩ v).alloc x).heap[W.heap.size]? = some x := blkA _ _ (by simp [World.setCell])
end Go.Proofs.Ytdagadcflignfaa
namespace Go.Proofs.Ytdagadcflignfaa
open Go.RowKit
theorem info_itv : (Try.prog.info? 82).map (fun i => (i.zero, i.size, i.bytes)) = some (some (.agg #[.int .i64 0, .int .i64 0]), 2, 16) := by kernel_rfl
theorem own_keep {w w' : World} {b : Nat} {e : TypeId} {size n : Nat} {v : Value} {xs : List Value} (h : w.ownsRow b e size v n xs) (hb : Below w.heap.size w w') : w'.ownsRow b e size v n xs := by
  refine ⟨h.1, ?_⟩
  rcases h.2 with h0 | ⟨g, cap, cur, rfl, hg, h1, h2⟩
  · exact .inl h0
  · exact .inr ⟨g, cap, cur, rfl, hg, blk_keep hb h1, h2⟩
theorem below_grown {B : Nat} {w W w1 : World} {own : Option Nat} (hgrow : W.grownBy w1 own) (hb : Below w.heap.size w W) (hB : B ≤ w.heap.size) (ho : ∀ b, own = some b → B ≤ b) : Below B w w1 := (hb.mono hB).grown hgrow (Nat.le_trans hB hb.size) ho
theorem grown_blk {W w1 : World} {own : Option Nat} {b : Nat} {x : Obj} (h : W.grownBy w1 own) (hb : W.heap[b]? = some x) (hne : own ≠ some b) : w1.heap[b]? = some x := (h.block b (blk_lt hb) (fun e => hne e.symm)).trans hb
theorem own_same {w w' : World} {b g n c : Nat} {e : TypeId} {size : Nat} {xs : List Value} (h : w.ownsRow b e size (.slice (some ⟨g, 0, none⟩) n c) n xs) (hk : ∀ x, w.heap[g]? = some x → w'.heap[g]? = some x) : w'.ownsRow b e size (.slice (some ⟨g, 0, none⟩) n c) n xs := by
  refine ⟨h.1, ?_⟩
  rcases h.2 with ⟨h0, _⟩ | ⟨g2, cap, cur, hv, hg, h1, h2⟩
  · cases h0
  · injection hv with e1 e2 e3
    injection e1 with e1
    injection e1 with e1
    subst e1
    exact .inr ⟨g, cap, cur, by rw [e3], hg, hk _ h1, h2⟩
/-- Three cells are stored into a block. -/
theorem put3 {W WF : World} {n : Nat} {t : TypeId} {d0 d1 d2 : Value} (h : W.heap[n]? = some (.cells #[d0, d1, d2] t (0, 0))) (v0 v1 v2 : Value) (hW : WF = ((W.setCell ⟨n, 0, none⟩ v0).setCell ⟨n, 1, none⟩ v1).setCell ⟨n, 2, none⟩ v2) :
    WF.heap[n]? = some (.cells #[v0, v1, v2] t (0, 0)) ∧ (∀ (b : Nat) (x : Obj), b ≠ n → W.heap[b]? = some x → WF.heap[b]? = some x) ∧ (∀ B, B ≤ n → Below B W WF) ∧ WF.heap.size = W.heap.size := by
  subst hW
  refine ⟨by simp [World.setCell, Array.getElem?_modify, h], fun b x hb hx => blk_set (blk_set (blk_set hx hb) hb) hb, fun B hB => ?_, by simp [World.setCell]⟩
  exact (((Below.refl _ W).setCell (p := ⟨n, 0, none⟩) hB v0).setCell (p := ⟨n, 1, none⟩) hB v1).setCell (p := ⟨n, 2, none⟩) hB v2
/-- The cells of a row of Itvs. -/
def cellsOf (xs : List (Int × Int)) : List Value := xs.flatMap fun p => [.int .i64 p.1, .int .i64 p.2]
theorem cellsOf_len (xs : List (Int × Int)) : (cellsOf xs).length = xs.length * 2 := by
  induction xs with
  | nil => rfl
  | cons x l ih => simp only [cellsOf, List.flatMap_cons, List.length_append, List.length_cons, List.length_nil] at ih ⊢; omega
theorem cellsOf_one (xs : List (Int × Int)) : ∀ u ∈ cellsOf xs, u.oneCell' = true := by
  intro u hu
  simp only [cellsOf, List.mem_flatMap] at hu
  obtain ⟨p, _, hp⟩ := hu
  simp at hp
  rcases hp with rfl | rfl <;> rfl
/-- An Elem of one's own: its numbers lie in a row that none other holds. -/
def ElemAt (W : World) (base : Nat) (t : TypeId) (g cap : Nat) (xs : List (Int × Int)) : Prop := W.ownsRow base t 2 (.slice (some ⟨g, 0, none⟩) xs.length cap) xs.length (cellsOf xs)
def Copied (w : World) (l h : Int) (xs : List (Int × Int)) (e : Ending) (w' : World) : Prop := ∃ g cap, e = .returned (.agg #[.int .i64 l, .int .i64 h, .slice (some ⟨g, 0, none⟩) xs.length cap]) ∧ ElemAt w' w.heap.size 82 g cap xs ∧ Below w.heap.size w w'
set_option maxRecDepth 100000 in
set_option maxHeartbeats 1000000 in
theorem copied_any (l h : Int) (b c base : Nat) (xs : List (Int × Int)) (w : World) (hn : 0 < xs.length) (hs : xs.length ≤ 1000) (hx : ElemAt w base 82 b c xs) :
    Calls Try.prog 50 #[.agg #[.int .i64 l, .int .i64 h, .slice (some ⟨b, 0, none⟩) xs.length c]] w (Copied w l h xs) := by
  obtain ⟨ii, hii, iz0, iz1, iz2⟩ := info_parts info_itv
  have hbw := (hx.lt b rfl).2
  have hc : ∀ (j : Nat) (u : Value), (cellsOf xs)[j]? = some u → w.cell? ((⟨b, 0, none⟩ : Addr).add j) = some u := fun j u hu => hx.cells rfl j u hu
  replace hii := Lib.hid hii
  replace hc := Lib.hid hc
  replace hx := Lib.hid hx
  have hln := Lib.hid (cellsOf_len xs)
  generalize hm : xs.length = n at *
  replace hm := Lib.hid hm
  go_enter Try.func50, Try.ntmps50
  go_upto_region 1 with fail
  refine wp_world (fun W => W.heap[w.heap.size]? = some (.cells #[.int .i64 l, .int .i64 h, .slice (some ⟨b, 0, none⟩) n c] 85 (0, 0)) ∧ W.heap[w.heap.size + 1]? = some (.cells #[.int .i64 0, .int .i64 0, .slice none 0 0] 85 (0, 0)) ∧ Below w.heap.size w W) ⟨blkUp (blkA _ _ rfl) _, blkA _ _ (by simp only [World.size_alloc]), ((Below.refl _ _).alloc (Nat.le_refl _) _).alloc (by simp only [World.size_alloc]; omega) _⟩ ?_
  rintro w1 ⟨k0, k1, hB⟩
  have r0 := row_of k0
  have f0 := frozen_of k0
  have z0 := blk_lt k0
  have z1 := blk_lt k1
  have hcD := Lib.hid (((own_keep (show w.ownsRow base 82 2 (.slice (some ⟨b, 0, none⟩) n c) n (cellsOf xs) from by have t := hx.out; unfold ElemAt at t; rw [hm.out] at t; exact t) hB).drew).cells rfl)
  go_region_law (first
    | (refine step_append_lies _ (by rfl) _ _ _ (by rfl) w.heap.size 82 ii _ 2 16 Try.underlying83 hii.out iz0 iz1 iz2 rfl (by decide) (.slice none 0 0) 0 [] (by rfl) (World.ownsRow_nil _ _ _ _) ⟨b, 0, none⟩ n c (cellsOf xs) (by rfl) hln.out hcD.out (cellsOf_one xs) hn (by unfold maxLen; omega) (by omega) hB.size w1.heap.size (by rfl) ?_; intro gg cap w2 hown hgrow hat hlt; have k1' := grown_blk hgrow (b := w.heap.size + 1) k1 (by simp [Value.ownBlock]); have hcz := row_of k1'; have hfz := frozen_of k1'; have hzz := blk_lt k1'; have k0' := grown_blk hgrow (b := w.heap.size) k0 (by simp [Value.ownBlock]); have hc0 := row_of k0'; have hB2 := Lib.hid (below_grown hgrow hB.drew (Nat.le_refl _) (fun b hb => by simp [Value.ownBlock] at hb)); have hgx : gg ≠ w.heap.size + 1 := (by rcases hat with h | h; (simp [Value.ownBlock] at h); omega); replace hown := Lib.hid hown; clear hgrow hat))
  all_goals
    go_wp2_with fail
    generalize hWF : (World.setCell (World.setCell (World.setCell _ _ _) _ _) _ _) = WF
    obtain ⟨kF, kO, bF, _⟩ := put3 k1' _ _ _ hWF.symm
    clear hWF hcz hfz hc0
    have rF := row_of kF
    have hf := hB2.out.trans (bF _ (by show w.heap.size ≤ w.heap.size + 1; omega))
    refine bodyPost_ret (v := .agg #[.int .i64 l, .int .i64 h, .slice (some ⟨gg, 0, none⟩) n cap]) (by simp [results, Try.results50, go_sem, rF]) rfl ⟨gg, cap, by rw [hm.out], ?_, hf⟩
    have ht := hown.out
    rw [List.nil_append, Nat.zero_add] at ht
    have ho := own_same ht (fun x hx => kO gg x hgx hx)
    unfold ElemAt
    rw [hm.out]
    exact ho
end Go.Proofs.Ytdagadcflignfaa
namespace Go.Proofs.Ytdagadcflignfaa
open Go.RowKit
theorem run_copy_sz (P : Program) (w : World) (dT sT ty elem : TypeId) (g o dLen dCap : Nat) (a : Addr) (sLen sCap m sz : Nat) (cur : Array Value) (t : TypeId) (cs : List Value)
    (hu : P.underlying dT = some (.slice elem)) (hs : (P.info? elem).map (·.size) = some sz)
    (hg : w.heap[g]? = some (.cells cur t (0, 0))) (hm : m = Nat.min sLen dLen) (hn : cs.length = m * sz)
    (hsrc : ∀ j v, cs[j]? = some v → w.cell? (a.add j) = some v) (hfit : o + cs.length ≤ cur.size) (h1 : ∀ v ∈ cs, v.oneCell' = true) :
    (Builtin.copy_ #[dT, sT] ty #[.slice (some ⟨g, o, none⟩) dLen dCap, .slice (some a) sLen sCap]).run P w =
      .ok (goInt m) (w.setRow g (cur.toList.take o ++ cs ++ cur.toList.drop (o + cs.length)).toArray) := by
  have hl := run_loadCells_list (P := P) w a cs hsrc
  have hst := run_storeCells_at P g o t cs 0 cur w hg (by simpa using hfit) h1
  rw [hn] at hl
  cases hq : P.info? elem with
  | none => simp [hq] at hs
  | some i =>
    have hi : i.size = sz := by simpa [hq] using hs
    simp [Builtin.copy_, run_underlying hu, Builtin.lenOf, Builtin.firstCells, sizeOf, typeInfo, hq, hi, ← hm, hl, hst]
theorem wpList_copy_sz {P : Program} {w : World} {ops : Array Oper} {rest : List Oper} {o : Oper} {a : Act} {Q : Exit → Act → World → Prop} (hgd : o.guard = none) (d s : Operand) (dT sT : TypeId)
    (ho : o.op = .call { callee := .builtin .copy, args := #[d, s], argTypes := #[dT, sT] }) (elem : TypeId) (hu : P.underlying dT = some (.slice elem)) (sz : Nat) (hsz : (P.info? elem).map (·.size) = some sz)
    (g off dLen dCap : Nat) (ad : Addr) (sLen sCap m : Nat) (hd : a.eval d = .slice (some ⟨g, off, none⟩) dLen dCap) (hs : a.eval s = .slice (some ad) sLen sCap)
    (cur : Array Value) (t : TypeId) (hg : w.heap[g]? = some (.cells cur t (0, 0))) (cs : List Value) (hm : m = Nat.min sLen dLen) (hn : cs.length = m * sz)
    (hsrc : ∀ j v, cs[j]? = some v → w.cell? (ad.add j) = some v) (hfit : off + cs.length ≤ cur.size) (h1 : ∀ v ∈ cs, v.oneCell' = true)
    (new : Array Value) (hnew : new = (cur.toList.take off ++ cs ++ cur.toList.drop (off + cs.length)).toArray) (_hlt : g < w.heap.size)
    (h : ∀ w', w'.heap[g]? = some (.cells new t (0, 0)) → Below g w w' → wpList P ops Q rest (a.put o.dst (goInt m)) w') : wpList P ops Q (o :: rest) a w := by
  refine wpList_plain hgd fun K hK => ?_
  have hrun := run_copy_sz P w dT sT o.type elem g off dLen dCap ad sLen sCap m sz cur t cs hu hsz hg hm hn hsrc hfit h1
  unfold Oper.wp
  simp [execOp, ho, resolve, invoke, builtin, hd, hs, hrun, Result.andThen]
  exact hK _ _ (h _ (by rw [hnew]; simpa using setRow_heap w g cur _ t _ hg) (below_setRow (Below.refl _ w) (Nat.le_refl _) _))
theorem step_copy_sz {P : Program} {ops : Array Oper} {o : Oper} {a : Act} {w : World} {K : Act → World → Prop} {Q : Exit → Act → World → Prop} {E : Prop} (hgd : o.guard = none) (d s : Operand) (dT sT : TypeId)
    (ho : o.op = .call { callee := .builtin .copy, args := #[d, s], argTypes := #[dT, sT] }) (elem : TypeId) (hu : P.underlying dT = some (.slice elem)) (sz : Nat) (hsz : (P.info? elem).map (·.size) = some sz)
    (g off dLen dCap : Nat) (ad : Addr) (sLen sCap m : Nat) (hd : a.eval d = .slice (some ⟨g, off, none⟩) dLen dCap) (hs : a.eval s = .slice (some ad) sLen sCap)
    (cur : Array Value) (t : TypeId) (hg : w.heap[g]? = some (.cells cur t (0, 0))) (cs : List Value) (hm : m = Nat.min sLen dLen) (hn : cs.length = m * sz)
    (hsrc : ∀ j v, cs[j]? = some v → w.cell? (ad.add j) = some v) (hfit : off + cs.length ≤ cur.size) (h1 : ∀ v ∈ cs, v.oneCell' = true)
    (new : Array Value) (hnew : new = (cur.toList.take off ++ cs ++ cur.toList.drop (off + cs.length)).toArray) (_hlt : g < w.heap.size)
    (h : ∀ w', w'.heap[g]? = some (.cells new t (0, 0)) → Below g w w' → K (a.put o.dst (goInt m)) w') :
    if Region.wanted o (yielded ops a.tmps) = true then Oper.wp P o a w K Q else E := by
  have hw : Region.wanted o (yielded ops a.tmps) = true := by simp [Region.wanted, hgd]
  rw [if_pos hw]
  have hrun := run_copy_sz P w dT sT o.type elem g off dLen dCap ad sLen sCap m sz cur t cs hu hsz hg hm hn hsrc hfit h1
  unfold Oper.wp
  simp [execOp, ho, resolve, invoke, builtin, hd, hs, hrun, Result.andThen]
  exact h _ (by rw [hnew]; simpa using setRow_heap w g cur _ t _ hg) (below_setRow (Below.refl _ w) (Nat.le_refl _) _)
theorem size_itv : (Try.prog.info? 82).map (·.size) = some 2 := by kernel_rfl
end Go.Proofs.Ytdagadcflignfaa
