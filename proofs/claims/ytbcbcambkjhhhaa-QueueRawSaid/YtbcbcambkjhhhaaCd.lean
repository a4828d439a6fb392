/-
  The reference's calls on channels; the law's From and to.
-/
import Derived.Test.YtbcbcambkjhhhaaCc
namespace Go.Proofs.Ytbcbcambkjhhhaa.Sx.Z
open Go.RowKit
theorem prD_app (n : Nat) (g : Nat → Int × Int) : (prD n g).rows ++ ([cl (g n)].take (0 + 1)).drop 0 = (prD (n + 1) g).rows := by
  show (List.range n).map _ ++ [cl (g n)] = (List.range (n + 1)).map _
  rw [List.range_succ, List.map_append]; rfl
theorem full_len {n : Nat} {r : List (List D)} (hr : r.length = n) : (r.take (0 + n)).drop 0 = r := by rw [Nat.zero_add, List.drop_zero, ← hr, List.take_length]
def rsndB (d : D) (tag : Int) (i : Int × Int) : Bool := !(decide (i.1 > i.2)) && !(decide (tag < 0)) && !(decide (tag ≥ d.len))
def rsndL (size : Int) (l : Int × Int) (d : D) (tag : Int) (i : Int × Int) : Int × Int := if rsndB d tag i = true then (0, min (IntKind.i64.wrap (l.2 + 1)) size) else l
def rsndD (d : D) (tag : Int) (i : Int × Int) : D := if rsndB d tag i = true then setR d tag.toNat (rjnI (pr d tag.toNat) i) else d
def sameE (a : Int × Int) (A : D) (b : Int × Int) (B : D) : Bool := decide (a = b) && decide (A.len = B.len) && allQ (fun j => decide (pr A j = pr B j)) A.len
def rf (w : Bool) (a b : Int × Int) : Int × Int := if w = true then rwdI a b else rjnI a b
theorem sameE_refl (a : Int × Int) (A : D) : sameE a A a A = true := by
  unfold sameE
  rw [allQ_iff.2 fun j _ => by simp]
  simp
noncomputable def lfromS : FSpec := fun ds _ => match ds with
  | [.i l, .i h, .d d] => some { val := .one (.agg [.c (.int .i64 (.sym (l))), .c (.int .i64 (.sym (h))), .c (.rows 52 (prD d.len (pr d)))]), vc := [d.len ≤ 8796093022208] }
  | _ => none
noncomputable def lfromC : Con := con [elA] lfromS
theorem lfrom_ok : ConOK Try.prog 26 lfromC := by
  refine fn_ob tt_ok mixed Try.func26 rfl (fun _ _ => by kernel_rfl) (A := fun ds => ⟨fun _ => Cons.of [], fun k => match k, ds with | 3, [.i l, .i h, .d d] => some { ι := Nat, pre := fun _ k => k ≤ d.len, μ := fun k => d.len + 1 - k, st := fun s k => famR s [(4, .one (.sc (.int .i64 (.sym ((k : Nat))))))] [1, 2, 3] [(idOf s 3, .own 55 ([.c (.int .i64 (.sym (l))), .c (.int .i64 (.sym (h))), .c (.osl 52 (s.nx - 1) (.lit 0) (.sym k))])), (s.nx - 1, .orow 52 (prD k (pr d)))] [1, 2] } | _, _ => none, fun _ => none⟩) (fun _ _ => cons_nil) (by kernel_rfl) ?_
  intro ds fr
  unfold lfromS
  split
  · rename_i l h d
    refine kmp (q := d.len ≤ (8796093022208 : Nat) →
 (∃ (i : Nat),
 i.le d.len ∧
 (0 : Int) = (↑i : Int) ∧
 l = l ∧
 h = h ∧
 i = (0 : Nat) ∧
 List.map (fun (j : Nat) => cl (pr d j)) (List.range i) = [] ∧ l = l ∧ h = h ∧ d.rows = d.rows ∧ (0 : Int) = (0 : Int) ∧ (0 : Int) = (0 : Int)) ∧
 ∀ (i : Nat),
 i.le d.len →
 (decide ((↑i : Int) < (↑d.len : Int)) = true →
 ((0 : Int) ≤ (↑i : Int) ∧ (↑i : Int) < (↑d.len : Int)) ∧
 ((0 : Int) ≤ (↑i : Int) ∧ (↑i : Int) < (↑d.len : Int)) ∧
 i = (prD i (pr d)).len ∧
 (i +
 ((D.l [[D.i (d.el (↑i : Int).toNat ((0 : Nat) + (0 : Nat))).toI, D.i (d.el (↑i : Int).toNat ((0 : Nat) + (1 : Nat))).toI]]).sub
 (0 : Nat) ((0 : Nat) + (1 : Nat))).len) *
 (16 : Nat) ≤
 (140737488355328 : Nat) ∧
 (0 : Nat) + (1 : Nat) ≤
 (D.l [[D.i (d.el (↑i : Int).toNat ((0 : Nat) + (0 : Nat))).toI, D.i (d.el (↑i : Int).toNat ((0 : Nat) + (1 : Nat))).toI]]).len ∧
 ∃ (j : Nat),
 j.le d.len ∧
 d.len + (1 : Nat) - j < d.len + (1 : Nat) - i ∧
 IntKind.i64.wrap ((↑i : Int) + (1 : Int)) = (↑j : Int) ∧
 l = l ∧
 h = h ∧
 i +
 ((D.l
 [[D.i (d.el (↑i : Int).toNat ((0 : Nat) + (0 : Nat))).toI,
 D.i (d.el (↑i : Int).toNat ((0 : Nat) + (1 : Nat))).toI]]).sub
 (0 : Nat) ((0 : Nat) + (1 : Nat))).len =
 j ∧
 List.map (fun (j : Nat) => cl (pr d j)) (List.range i) ++
 List.drop (0 : Nat)
 (List.take ((0 : Nat) + (1 : Nat))
 [[D.i (d.el (↑i : Int).toNat ((0 : Nat) + (0 : Nat))).toI,
 D.i (d.el (↑i : Int).toNat ((0 : Nat) + (1 : Nat))).toI]]) =
 List.map (fun (j : Nat) => cl (pr d j)) (List.range j) ∧
 l = l ∧ h = h ∧ d.rows = d.rows ∧ (0 : Int) = (0 : Int) ∧ (0 : Int) = (0 : Int)) ∧
 (decide ((↑i : Int) < (↑d.len : Int)) = false →
 nat_lit 0 + i ≤ (prD i (pr d)).len ∧
 l = l ∧
 h = h ∧
 List.drop (nat_lit 0) (List.take (nat_lit 0 + i) (List.map (fun (j : Nat) => cl (pr d j)) (List.range i))) =
 List.map (fun (j : Nat) => cl (pr d j)) (List.range d.len))) (by kernel_rfl) ?_
    intro hd
    simp only [Int.toNat_natCast, prD_len]
    refine ⟨⟨0, Nat.zero_le _, rfl, ?_⟩, fun i hi => ⟨fun x => ?_, fun x => ?_⟩⟩
    · (repeat' apply And.intro) <;> first | rfl | trivial
    · have x : i < d.len := by simpa using x
      refine ⟨by omega, by omega, trivial, ?_, Nat.le_refl 1, i + 1, x, by omega, wr _ (by omega), ?_⟩
      · show (i + 1) * 16 ≤ _; omega
      (repeat' apply And.intro) <;> first | rfl | trivial | exact prD_app i (pr d)
    · have x : ¬ i < d.len := by simpa using x
      have e : i = d.len := by have : i ≤ d.len := hi; omega
      subst e
      (repeat' apply And.intro) <;> first | rfl | trivial | omega | exact full_len (by simp)
  · trivial
noncomputable def ltoS : FSpec := fun ds _ => match ds with
  | [.i l, .i h, .d d] => some { val := .one (.agg [.c (.int .i64 (.sym (l))), .c (.int .i64 (.sym (h))), .c (.rows 48 (prD d.len (pr d)))]), vc := [d.len ≤ 8796093022208] }
  | _ => none
noncomputable def ltoC : Con := con [relA] ltoS
theorem lto_ok : ConOK Try.prog 32 ltoC := by
  refine fn_ob tt_ok mixed Try.func32 rfl (fun _ _ => by kernel_rfl) (A := fun ds => ⟨fun _ => Cons.of [], fun k => match k, ds with | 3, [.i l, .i h, .d d] => some { ι := Nat, pre := fun _ k => k ≤ d.len, μ := fun k => d.len + 1 - k, st := fun s k => famR s [(4, .one (.sc (.int .i64 (.sym ((k : Nat))))))] [1, 2, 3] [(idOf s 3, .own 51 ([.c (.int .i64 (.sym (l))), .c (.int .i64 (.sym (h))), .c (.osl 48 (s.nx - 1) (.lit 0) (.sym k))])), (s.nx - 1, .orow 48 (prD k (pr d)))] [1, 2] } | _, _ => none, fun _ => none⟩) (fun _ _ => cons_nil) (by kernel_rfl) ?_
  intro ds fr
  unfold ltoS
  split
  · rename_i l h d
    refine kmp (q := d.len ≤ (8796093022208 : Nat) →
 (∃ (i : Nat),
 i.le d.len ∧
 (0 : Int) = (↑i : Int) ∧
 l = l ∧
 h = h ∧
 i = (0 : Nat) ∧
 List.map (fun (j : Nat) => cl (pr d j)) (List.range i) = [] ∧ l = l ∧ h = h ∧ d.rows = d.rows ∧ (0 : Int) = (0 : Int) ∧ (0 : Int) = (0 : Int)) ∧
 ∀ (i : Nat),
 i.le d.len →
 (decide ((↑i : Int) < (↑d.len : Int)) = true →
 ((0 : Int) ≤ (↑i : Int) ∧ (↑i : Int) < (↑d.len : Int)) ∧
 ((0 : Int) ≤ (↑i : Int) ∧ (↑i : Int) < (↑d.len : Int)) ∧
 i = (prD i (pr d)).len ∧
 (i +
 ((D.l [[D.i (d.el (↑i : Int).toNat ((0 : Nat) + (0 : Nat))).toI, D.i (d.el (↑i : Int).toNat ((0 : Nat) + (1 : Nat))).toI]]).sub
 (0 : Nat) ((0 : Nat) + (1 : Nat))).len) *
 (16 : Nat) ≤
 (140737488355328 : Nat) ∧
 (0 : Nat) + (1 : Nat) ≤
 (D.l [[D.i (d.el (↑i : Int).toNat ((0 : Nat) + (0 : Nat))).toI, D.i (d.el (↑i : Int).toNat ((0 : Nat) + (1 : Nat))).toI]]).len ∧
 ∃ (j : Nat),
 j.le d.len ∧
 d.len + (1 : Nat) - j < d.len + (1 : Nat) - i ∧
 IntKind.i64.wrap ((↑i : Int) + (1 : Int)) = (↑j : Int) ∧
 l = l ∧
 h = h ∧
 i +
 ((D.l
 [[D.i (d.el (↑i : Int).toNat ((0 : Nat) + (0 : Nat))).toI,
 D.i (d.el (↑i : Int).toNat ((0 : Nat) + (1 : Nat))).toI]]).sub
 (0 : Nat) ((0 : Nat) + (1 : Nat))).len =
 j ∧
 List.map (fun (j : Nat) => cl (pr d j)) (List.range i) ++
 List.drop (0 : Nat)
 (List.take ((0 : Nat) + (1 : Nat))
 [[D.i (d.el (↑i : Int).toNat ((0 : Nat) + (0 : Nat))).toI,
 D.i (d.el (↑i : Int).toNat ((0 : Nat) + (1 : Nat))).toI]]) =
 List.map (fun (j : Nat) => cl (pr d j)) (List.range j) ∧
 l = l ∧ h = h ∧ d.rows = d.rows ∧ (0 : Int) = (0 : Int) ∧ (0 : Int) = (0 : Int)) ∧
 (decide ((↑i : Int) < (↑d.len : Int)) = false →
 nat_lit 0 + i ≤ (prD i (pr d)).len ∧
 l = l ∧
 h = h ∧
 List.drop (nat_lit 0) (List.take (nat_lit 0 + i) (List.map (fun (j : Nat) => cl (pr d j)) (List.range i))) =
 List.map (fun (j : Nat) => cl (pr d j)) (List.range d.len))) (by kernel_rfl) ?_
    intro hd
    simp only [Int.toNat_natCast, prD_len]
    refine ⟨⟨0, Nat.zero_le _, rfl, ?_⟩, fun i hi => ⟨fun x => ?_, fun x => ?_⟩⟩
    · (repeat' apply And.intro) <;> first | rfl | trivial
    · have x : i < d.len := by simpa using x
      refine ⟨by omega, by omega, trivial, ?_, Nat.le_refl 1, i + 1, x, by omega, wr _ (by omega), ?_⟩
      · show (i + 1) * 16 ≤ _; omega
      (repeat' apply And.intro) <;> first | rfl | trivial | exact prD_app i (pr d)
    · have x : ¬ i < d.len := by simpa using x
      have e : i = d.len := by have : i ≤ d.len := hi; omega
      subst e
      (repeat' apply And.intro) <;> first | rfl | trivial | omega | exact full_len (by simp)
  · trivial
noncomputable def rnoneS : FSpec := fun ds _ => match ds with
  | [.i n] => some { val := .one (.agg [.c (.int .i64 (.lit 0)), .c (.int .i64 (.lit 0)), .c (.rows 52 (prD n.toNat (fun _ => (1, 0))))]), vc := [0 ≤ n ∧ n ≤ 8796093022208] }
  | _ => none
noncomputable def rnoneC : Con := con [iA] rnoneS
theorem rnone_ok : ConOK Try.prog 64 rnoneC := by
  refine fn_ob tt_ok mixed Try.func64 rfl (fun _ _ => by kernel_rfl) (A := fun ds => ⟨fun _ => Cons.of [], fun k => match k, ds with | 3, [.i n] => some { ι := Nat, pre := fun _ k => k ≤ n.toNat, μ := fun k => n.toNat + 1 - k, st := fun s k => famR s [(4, .one (.sc (.int .i64 (.sym ((k : Nat))))))] [0, 2, 3] [(idOf s 3, .own 55 ([.c (.int .i64 (.lit 0)), .c (.int .i64 (.lit 0)), .c (.osl 52 (s.nx - 1) (.lit 0) (.sym k))])), (s.nx - 1, .orow 52 (prD k (fun _ => (1, 0))))] [2] } | _, _ => none, fun _ => none⟩) (fun _ _ => cons_nil) (by kernel_rfl) ?_
  intro ds fr
  unfold rnoneS
  split
  · rename_i n
    refine kmp (q := (0 : Int) ≤ n ∧ n ≤ (8796093022208 : Int) →
 (∃ (i : Nat),
 i.le n.toNat ∧
 (0 : Int) = (↑i : Int) ∧
 n = n ∧
 (0 : Int) = (0 : Int) ∧
 (0 : Int) = (0 : Int) ∧
 i = (0 : Nat) ∧ List.map (fun (j : Nat) => cl ((1 : Int), (0 : Int))) (List.range i) = [] ∧ (0 : Int) = (0 : Int) ∧ (0 : Int) = (0 : Int)) ∧
 ∀ (i : Nat),
 i.le n.toNat →
 (decide ((↑i : Int) < n) = true →
 i = (prD i fun (x : Nat) => ((1 : Int), (0 : Int))).len ∧
 (i + ((D.l [[D.i (1 : Int), D.i (0 : Int)]]).sub (0 : Nat) ((0 : Nat) + (1 : Nat))).len) * (16 : Nat) ≤ (140737488355328 : Nat) ∧
 (0 : Nat) + (1 : Nat) ≤ (D.l [[D.i (1 : Int), D.i (0 : Int)]]).len ∧
 ∃ (j : Nat),
 j.le n.toNat ∧
 n.toNat + (1 : Nat) - j < n.toNat + (1 : Nat) - i ∧
 IntKind.i64.wrap ((↑i : Int) + (1 : Int)) = (↑j : Int) ∧
 n = n ∧
 (0 : Int) = (0 : Int) ∧
 (0 : Int) = (0 : Int) ∧
 i + ((D.l [[D.i (1 : Int), D.i (0 : Int)]]).sub (0 : Nat) ((0 : Nat) + (1 : Nat))).len = j ∧
 List.map (fun (j : Nat) => cl ((1 : Int), (0 : Int))) (List.range i) ++
 List.drop (0 : Nat) (List.take ((0 : Nat) + (1 : Nat)) [[D.i (1 : Int), D.i (0 : Int)]]) =
 List.map (fun (j : Nat) => cl ((1 : Int), (0 : Int))) (List.range j) ∧
 (0 : Int) = (0 : Int) ∧ (0 : Int) = (0 : Int)) ∧
 (decide ((↑i : Int) < n) = false →
 nat_lit 0 + i ≤ (prD i fun (x : Nat) => ((1 : Int), (0 : Int))).len ∧
 (0 : Int) = (0 : Int) ∧
 (0 : Int) = (0 : Int) ∧
 List.drop (nat_lit 0) (List.take (nat_lit 0 + i) (List.map (fun (j : Nat) => cl ((1 : Int), (0 : Int))) (List.range i))) =
 List.map (fun (j : Nat) => cl ((1 : Int), (0 : Int))) (List.range n.toNat))) (by kernel_rfl) ?_
    intro hn
    simp only [prD_len]
    refine ⟨⟨0, Nat.zero_le _, rfl, ?_⟩, fun i hi => ⟨fun x => ?_, fun x => ?_⟩⟩
    · (repeat' apply And.intro) <;> first | rfl | trivial
    · have x : (i : Int) < n := by simpa using x
      have hi : i ≤ n.toNat := hi
      refine ⟨trivial, ?_, Nat.le_refl 1, i + 1, (show i + 1 ≤ n.toNat by omega), by omega, wr _ (by omega), ?_⟩
      · show (i + 1) * 16 ≤ _; omega
      (repeat' apply And.intro) <;> first | rfl | trivial | exact prD_app i (fun _ => (1, 0))
    · have x : ¬ (i : Int) < n := by simpa using x
      have e : i = n.toNat := by have : i ≤ n.toNat := hi; omega
      subst e
      (repeat' apply And.intro) <;> first | rfl | trivial | omega | exact full_len (by simp)
  · trivial
noncomputable def rcopy11S : List Dat → Option Eff := fun ds => match ds with
  | [.i l, .i h, .d d] => some { val := .one (.agg [.c (.int .i64 (.sym (l))), .c (.int .i64 (.sym (h))), .c (.osl 52 0 (.lit 0) (.sym d.len))]), vc := [d.len ≤ 8796093022208], nw := [(0, .orow 52 d)] }
  | _ => none
noncomputable def rcopy11C : Con := conS [relA] rcopy11S
theorem rcopy11_ok : ConOK Try.prog 72 rcopy11C := by
  refine fn_obS tt_ok mixed Try.func72 rfl (fun _ _ => by kernel_rfl) (A := fun ds => ⟨fun _ => Cons.of [], fun _ => none, fun _ => none⟩) (fun _ _ => cons_nil) (by kernel_rfl) ?_
  intro ds
  unfold rcopy11S
  split
  · rename_i l h d
    refine kmp (q := d.len ≤ (8796093022208 : Nat) →
 (0 : Nat) = (D.l []).len ∧ ((0 : Nat) + d.len) * (16 : Nat) ≤ (140737488355328 : Nat) ∧ l = l ∧ h = h ∧ (0 : Nat) + d.len = d.len ∧ [] ++ d.rows = d.rows) (by kernel_rfl) ?_
    intro hd
    exact ⟨rfl, by omega, rfl, rfl, by omega, rfl⟩
  · trivial
noncomputable def rsendS : FSpec := fun ds _ => match ds with
  | [.i size, .i l, .i h, .d d, .i tag, .i i0, .i i1] => some { val := .one (.agg [.c (.int .i64 (.sym ((rsndL size (l, h) d tag (i0, i1)).1))), .c (.int .i64 (.sym ((rsndL size (l, h) d tag (i0, i1)).2))), .c (.rows 52 (rsndD d tag (i0, i1)))]), vc := [d.len ≤ 8796093022208] }
  | _ => none
noncomputable def rsendC : Con := con [iA, relA, iA, itvA] rsendS
theorem rsend_ok : ConOK Try.prog 67 rsendC := by
  refine fn_ob tt_ok mixed Try.func67 rfl (fun _ _ => by kernel_rfl) (A := fun ds => ⟨fun _ => Cons.of [(72, rcopy11C), (73, rjoin8C)], fun _ => none, fun _ => none⟩) (fun _ _ => (cons_cons rcopy11_ok (cons_cons rjoin8_ok cons_nil))) (by kernel_rfl) ?_
  intro ds fr
  unfold rsendS
  split
  · rename_i size l h d tag i0 i1
    refine kmp (q := d.len ≤ (8796093022208 : Nat) →
 d.len ≤ (8796093022208 : Nat) ∧
 ((decide (i0 > i1) || decide (tag < (0 : Int)) || decide (tag ≥ (↑d.len : Int))) = true →
 nat_lit 0 + d.len ≤ d.len ∧
 l = (rsndL size (l, h) d tag (i0, i1)).fst ∧
 h = (rsndL size (l, h) d tag (i0, i1)).snd ∧ List.drop (nat_lit 0) (List.take (nat_lit 0 + d.len) d.rows) = (rsndD d tag (i0, i1)).rows) ∧
 ((decide (i0 > i1) || decide (tag < (0 : Int)) || decide (tag ≥ (↑d.len : Int))) = false →
 ((0 : Int) ≤ tag ∧ tag < (↑d.len : Int)) ∧
 ((0 : Int) ≤ tag ∧ tag < (↑d.len : Int)) ∧
 tag.toNat < d.len ∧
 nat_lit 0 + d.len ≤
 (d.setc [K.int IntKind.i64, K.int IntKind.i64].length tag.toNat (0 : Nat)
 [D.i (rjnI ((d.el tag.toNat (0 : Nat)).toI, (d.el tag.toNat ((0 : Nat) + (1 : Nat))).toI) (i0, i1)).fst,
 D.i (rjnI ((d.el tag.toNat (0 : Nat)).toI, (d.el tag.toNat ((0 : Nat) + (1 : Nat))).toI) (i0, i1)).snd]).len ∧
 (0 : Int) = (rsndL size (l, h) d tag (i0, i1)).fst ∧
 (if size < IntKind.i64.wrap (h + (1 : Int)) then size else IntKind.i64.wrap (h + (1 : Int))) = (rsndL size (l, h) d tag (i0, i1)).snd ∧
 List.drop (nat_lit 0)
 (List.take (nat_lit 0 + d.len)
 (d.rows.set tag.toNat
 [D.i (rjnI ((d.el tag.toNat (0 : Nat)).toI, (d.el tag.toNat ((0 : Nat) + (1 : Nat))).toI) (i0, i1)).fst,
 D.i (rjnI ((d.el tag.toNat (0 : Nat)).toI, (d.el tag.toNat ((0 : Nat) + (1 : Nat))).toI) (i0, i1)).snd])) =
 (rsndD d tag (i0, i1)).rows)) (by kernel_rfl) ?_
    intro hd
    have e : (decide (i0 > i1) || decide (tag < 0) || decide (tag ≥ (d.len : Int))) = !(rsndB d tag (i0, i1)) := by
      unfold rsndB
      cases decide (i0 > i1) <;> cases decide (tag < 0) <;> cases decide (tag ≥ (d.len : Int)) <;> rfl
    rw [e]
    refine ⟨hd, fun c => ?_, fun c => ?_⟩
    · have c : ¬ rsndB d tag (i0, i1) = true := by simpa using c
      unfold rsndL rsndD
      rw [if_neg c, if_neg c]
      exact ⟨(show 0 + d.len ≤ d.len by simp), rfl, rfl, full_len rfl⟩
    · have c : rsndB d tag (i0, i1) = true := by simpa using c
      have ht : 0 ≤ tag ∧ tag < d.len := by
        unfold rsndB at c
        simp only [Bool.and_eq_true, Bool.not_eq_true', decide_eq_false_iff_not] at c
        omega
      unfold rsndL rsndD
      rw [if_pos c, if_pos c]
      refine ⟨ht, ht, by omega, ?_, rfl, ?_, full_len (by simp; rfl)⟩
      · show 0 + d.len ≤ (d.rows.set tag.toNat _).length
        rw [List.length_set]
        show 0 + d.rows.length ≤ d.rows.length
        omega
      · show _ = min (IntKind.i64.wrap (h + 1)) size
        rw [Int.min_def]
        split <;> split <;> omega
  · trivial
noncomputable def rtwoS : FSpec := fun ds _ => match ds with
  | [.i l, .i h, .d d, .i l2, .i h2, .d d2, .b w] => some { val := .one (.agg [.c (.int .i64 (.sym ((twoL (rf w) (l, h) (l2, h2) d d2).1))), .c (.int .i64 (.sym ((twoL (rf w) (l, h) (l2, h2) d d2).2))), .c (.rows 52 (twoD (rf w) d d2))]), vc := [d.len ≤ 8796093022208] }
  | _ => none
noncomputable def rtwoC : Con := con [relA, relA, .sc .bool] rtwoS
theorem rtwo_ok : ConOK Try.prog 27 rtwoC := by
  refine fn_ob tt_ok mixed Try.func27 rfl (fun _ _ => by kernel_rfl) (A := fun ds => ⟨fun _ => Cons.of [(72, rcopy11C), (73, rjoin8C), (74, rwiden8C)], fun k => match k, ds with | 9, [.i l, .i h, .d d, .i l2, .i h2, .d d2, .b w] => some { ι := Nat, pre := fun _ k => k ≤ d.len ∧ d.len = d2.len, μ := fun k => d.len + 1 - k, st := fun s k => famR s [(9, .one (.sc (.int .i64 (.sym ((k : Nat))))))] [2, 3, 4, 6, 7] [(idOf s 7, .own 55 ([.c (.int .i64 (.sym (((rf w) (l, h) (l2, h2)).1))), .c (.int .i64 (.sym (((rf w) (l, h) (l2, h2)).2))), .c (.osl 52 (s.nx - 1) (.lit 0) (.sym d.len))])), (s.nx - 1, .orow 52 (mixD d (fun j => (rf w) (pr d j) (pr d2 j)) k))] [3, 4, 6] } | _, _ => none, fun _ => none⟩) (fun _ _ => (cons_cons rcopy11_ok (cons_cons rjoin8_ok (cons_cons rwiden8_ok cons_nil)))) (by kernel_rfl) ?_
  intro ds fr
  unfold rtwoS
  split
  · rename_i l h d l2 h2 d2 w
    refine kmp (q := d.len ≤ (8796093022208 : Nat) →
 d.len ≤ (8796093022208 : Nat) ∧
 (((↑d.len : Int) != (↑d2.len : Int)) = true →
 nat_lit 0 + d.len ≤ d.len ∧
 l = (twoL (rf w) (l, h) (l2, h2) d d2).fst ∧
 h = (twoL (rf w) (l, h) (l2, h2) d d2).snd ∧ List.drop (nat_lit 0) (List.take (nat_lit 0 + d.len) d.rows) = (twoD (rf w) d d2).rows) ∧
 (((↑d.len : Int) != (↑d2.len : Int)) = false →
 (w = true →
 (∃ (i : Nat),
 (i ≤ d.len ∧ d.len = d2.len) ∧
 (0 : Int) = (↑i : Int) ∧
 w = w ∧
 (rwdI (l, h) (l2, h2)).fst = (rf w (l, h) (l2, h2)).fst ∧
 (rwdI (l, h) (l2, h2)).snd = (rf w (l, h) (l2, h2)).snd ∧
 d.len = d.len ∧
 d.rows = List.map (fun (j : Nat) => if j < i then cl (rf w (pr d j) (pr d2 j)) else d.rows.getD j []) (List.range d.len) ∧
 l = l ∧ h = h ∧ d.rows = d.rows ∧ l2 = l2 ∧ h2 = h2 ∧ d2.rows = d2.rows ∧ (0 : Int) = (0 : Int) ∧ (0 : Int) = (0 : Int)) ∧
 ∀ (i : Nat),
 i ≤ d.len ∧ d.len = d2.len →
 (decide ((↑i : Int) < (↑d.len : Int)) = true →
 ((0 : Int) ≤ (↑i : Int) ∧ (↑i : Int) < (↑d.len : Int)) ∧
 ((0 : Int) ≤ (↑i : Int) ∧ (↑i : Int) < (↑d2.len : Int)) ∧
 ((0 : Int) ≤ (↑i : Int) ∧ (↑i : Int) < (↑d.len : Int)) ∧
 (↑i : Int).toNat < (mixD d (fun (j : Nat) => rf w (pr d j) (pr d2 j)) i).len ∧
 (w = true →
 ((0 : Int) ≤ (↑i : Int) ∧ (↑i : Int) < (↑d.len : Int)) ∧
 ((0 : Int) ≤ (↑i : Int) ∧ (↑i : Int) < (↑d2.len : Int)) ∧
 ((0 : Int) ≤ (↑i : Int) ∧ (↑i : Int) < (↑d.len : Int)) ∧
 (↑i : Int).toNat <
 ((mixD d (fun (j : Nat) => rf w (pr d j) (pr d2 j)) i).setc [K.int IntKind.i64, K.int IntKind.i64].length
 (↑i : Int).toNat (0 : Nat)
 [D.i
 (rjnI ((d.el (↑i : Int).toNat (0 : Nat)).toI, (d.el (↑i : Int).toNat ((0 : Nat) + (1 : Nat))).toI)
 ((d2.el (↑i : Int).toNat (0 : Nat)).toI, (d2.el (↑i : Int).toNat ((0 : Nat) + (1 : Nat))).toI)).fst,
 D.i
 (rjnI ((d.el (↑i : Int).toNat (0 : Nat)).toI, (d.el (↑i : Int).toNat ((0 : Nat) + (1 : Nat))).toI)
 ((d2.el (↑i : Int).toNat (0 : Nat)).toI,
 (d2.el (↑i : Int).toNat ((0 : Nat) + (1 : Nat))).toI)).snd]).len ∧
 ∃ (j : Nat),
 (j ≤ d.len ∧ d.len = d2.len) ∧
 d.len + (1 : Nat) - j < d.len + (1 : Nat) - i ∧
 IntKind.i64.wrap ((↑i : Int) + (1 : Int)) = (↑j : Int) ∧
 w = w ∧
 (rf w (l, h) (l2, h2)).fst = (rf w (l, h) (l2, h2)).fst ∧
 (rf w (l, h) (l2, h2)).snd = (rf w (l, h) (l2, h2)).snd ∧
 d.len = d.len ∧
 ((List.map (fun (j : Nat) => if j < i then cl (rf w (pr d j) (pr d2 j)) else d.rows.getD j [])
 (List.range d.len)).set
 (↑i : Int).toNat
 [D.i
 (rjnI
 ((d.el (↑i : Int).toNat (0 : Nat)).toI,
 (d.el (↑i : Int).toNat ((0 : Nat) + (1 : Nat))).toI)
 ((d2.el (↑i : Int).toNat (0 : Nat)).toI,
 (d2.el (↑i : Int).toNat ((0 : Nat) + (1 : Nat))).toI)).fst,
 D.i
 (rjnI
 ((d.el (↑i : Int).toNat (0 : Nat)).toI,
 (d.el (↑i : Int).toNat ((0 : Nat) + (1 : Nat))).toI)
 ((d2.el (↑i : Int).toNat (0 : Nat)).toI,
 (d2.el (↑i : Int).toNat ((0 : Nat) + (1 : Nat))).toI)).snd]).set
 (↑i : Int).toNat
 [D.i
 (rwdI
 ((d.el (↑i : Int).toNat (0 : Nat)).toI,
 (d.el (↑i : Int).toNat ((0 : Nat) + (1 : Nat))).toI)
 ((d2.el (↑i : Int).toNat (0 : Nat)).toI,
 (d2.el (↑i : Int).toNat ((0 : Nat) + (1 : Nat))).toI)).fst,
 D.i
 (rwdI
 ((d.el (↑i : Int).toNat (0 : Nat)).toI,
 (d.el (↑i : Int).toNat ((0 : Nat) + (1 : Nat))).toI)
 ((d2.el (↑i : Int).toNat (0 : Nat)).toI,
 (d2.el (↑i : Int).toNat ((0 : Nat) + (1 : Nat))).toI)).snd] =
 List.map
 (fun (j_1 : Nat) => if j_1 < j then cl (rf w (pr d j_1) (pr d2 j_1)) else d.rows.getD j_1 [])
 (List.range d.len) ∧
 l = l ∧
 h = h ∧
 d.rows = d.rows ∧
 l2 = l2 ∧ h2 = h2 ∧ d2.rows = d2.rows ∧ (0 : Int) = (0 : Int) ∧ (0 : Int) = (0 : Int)) ∧
 (w = false →
 ∃ (j : Nat),
 (j ≤ d.len ∧ d.len = d2.len) ∧
 d.len + (1 : Nat) - j < d.len + (1 : Nat) - i ∧
 IntKind.i64.wrap ((↑i : Int) + (1 : Int)) = (↑j : Int) ∧
 w = w ∧
 (rf w (l, h) (l2, h2)).fst = (rf w (l, h) (l2, h2)).fst ∧
 (rf w (l, h) (l2, h2)).snd = (rf w (l, h) (l2, h2)).snd ∧
 d.len = d.len ∧
 (List.map (fun (j : Nat) => if j < i then cl (rf w (pr d j) (pr d2 j)) else d.rows.getD j [])
 (List.range d.len)).set
 (↑i : Int).toNat
 [D.i
 (rjnI ((d.el (↑i : Int).toNat (0 : Nat)).toI, (d.el (↑i : Int).toNat ((0 : Nat) + (1 : Nat))).toI)
 ((d2.el (↑i : Int).toNat (0 : Nat)).toI,
 (d2.el (↑i : Int).toNat ((0 : Nat) + (1 : Nat))).toI)).fst,
 D.i
 (rjnI ((d.el (↑i : Int).toNat (0 : Nat)).toI, (d.el (↑i : Int).toNat ((0 : Nat) + (1 : Nat))).toI)
 ((d2.el (↑i : Int).toNat (0 : Nat)).toI,
 (d2.el (↑i : Int).toNat ((0 : Nat) + (1 : Nat))).toI)).snd] =
 List.map (fun (j_1 : Nat) => if j_1 < j then cl (rf w (pr d j_1) (pr d2 j_1)) else d.rows.getD j_1 [])
 (List.range d.len) ∧
 l = l ∧
 h = h ∧
 d.rows = d.rows ∧
 l2 = l2 ∧ h2 = h2 ∧ d2.rows = d2.rows ∧ (0 : Int) = (0 : Int) ∧ (0 : Int) = (0 : Int))) ∧
 (decide ((↑i : Int) < (↑d.len : Int)) = false →
 nat_lit 0 + d.len ≤ (mixD d (fun (j : Nat) => rf w (pr d j) (pr d2 j)) i).len ∧
 (rf w (l, h) (l2, h2)).fst = (twoL (rf w) (l, h) (l2, h2) d d2).fst ∧
 (rf w (l, h) (l2, h2)).snd = (twoL (rf w) (l, h) (l2, h2) d d2).snd ∧
 List.drop (nat_lit 0)
 (List.take (nat_lit 0 + d.len)
 (List.map (fun (j : Nat) => if j < i then cl (rf w (pr d j) (pr d2 j)) else d.rows.getD j []) (List.range d.len))) =
 (twoD (rf w) d d2).rows)) ∧
 (w = false →
 (∃ (i : Nat),
 (i ≤ d.len ∧ d.len = d2.len) ∧
 (0 : Int) = (↑i : Int) ∧
 w = w ∧
 (rjnI (l, h) (l2, h2)).fst = (rf w (l, h) (l2, h2)).fst ∧
 (rjnI (l, h) (l2, h2)).snd = (rf w (l, h) (l2, h2)).snd ∧
 d.len = d.len ∧
 d.rows = List.map (fun (j : Nat) => if j < i then cl (rf w (pr d j) (pr d2 j)) else d.rows.getD j []) (List.range d.len) ∧
 l = l ∧ h = h ∧ d.rows = d.rows ∧ l2 = l2 ∧ h2 = h2 ∧ d2.rows = d2.rows ∧ (0 : Int) = (0 : Int) ∧ (0 : Int) = (0 : Int)) ∧
 ∀ (i : Nat),
 i ≤ d.len ∧ d.len = d2.len →
 (decide ((↑i : Int) < (↑d.len : Int)) = true →
 ((0 : Int) ≤ (↑i : Int) ∧ (↑i : Int) < (↑d.len : Int)) ∧
 ((0 : Int) ≤ (↑i : Int) ∧ (↑i : Int) < (↑d2.len : Int)) ∧
 ((0 : Int) ≤ (↑i : Int) ∧ (↑i : Int) < (↑d.len : Int)) ∧
 (↑i : Int).toNat < (mixD d (fun (j : Nat) => rf w (pr d j) (pr d2 j)) i).len ∧
 (w = true →
 ((0 : Int) ≤ (↑i : Int) ∧ (↑i : Int) < (↑d.len : Int)) ∧
 ((0 : Int) ≤ (↑i : Int) ∧ (↑i : Int) < (↑d2.len : Int)) ∧
 ((0 : Int) ≤ (↑i : Int) ∧ (↑i : Int) < (↑d.len : Int)) ∧
 (↑i : Int).toNat <
 ((mixD d (fun (j : Nat) => rf w (pr d j) (pr d2 j)) i).setc [K.int IntKind.i64, K.int IntKind.i64].length
 (↑i : Int).toNat (0 : Nat)
 [D.i
 (rjnI ((d.el (↑i : Int).toNat (0 : Nat)).toI, (d.el (↑i : Int).toNat ((0 : Nat) + (1 : Nat))).toI)
 ((d2.el (↑i : Int).toNat (0 : Nat)).toI, (d2.el (↑i : Int).toNat ((0 : Nat) + (1 : Nat))).toI)).fst,
 D.i
 (rjnI ((d.el (↑i : Int).toNat (0 : Nat)).toI, (d.el (↑i : Int).toNat ((0 : Nat) + (1 : Nat))).toI)
 ((d2.el (↑i : Int).toNat (0 : Nat)).toI,
 (d2.el (↑i : Int).toNat ((0 : Nat) + (1 : Nat))).toI)).snd]).len ∧
 ∃ (j : Nat),
 (j ≤ d.len ∧ d.len = d2.len) ∧
 d.len + (1 : Nat) - j < d.len + (1 : Nat) - i ∧
 IntKind.i64.wrap ((↑i : Int) + (1 : Int)) = (↑j : Int) ∧
 w = w ∧
 (rf w (l, h) (l2, h2)).fst = (rf w (l, h) (l2, h2)).fst ∧
 (rf w (l, h) (l2, h2)).snd = (rf w (l, h) (l2, h2)).snd ∧
 d.len = d.len ∧
 ((List.map (fun (j : Nat) => if j < i then cl (rf w (pr d j) (pr d2 j)) else d.rows.getD j [])
 (List.range d.len)).set
 (↑i : Int).toNat
 [D.i
 (rjnI
 ((d.el (↑i : Int).toNat (0 : Nat)).toI,
 (d.el (↑i : Int).toNat ((0 : Nat) + (1 : Nat))).toI)
 ((d2.el (↑i : Int).toNat (0 : Nat)).toI,
 (d2.el (↑i : Int).toNat ((0 : Nat) + (1 : Nat))).toI)).fst,
 D.i
 (rjnI
 ((d.el (↑i : Int).toNat (0 : Nat)).toI,
 (d.el (↑i : Int).toNat ((0 : Nat) + (1 : Nat))).toI)
 ((d2.el (↑i : Int).toNat (0 : Nat)).toI,
 (d2.el (↑i : Int).toNat ((0 : Nat) + (1 : Nat))).toI)).snd]).set
 (↑i : Int).toNat
 [D.i
 (rwdI
 ((d.el (↑i : Int).toNat (0 : Nat)).toI,
 (d.el (↑i : Int).toNat ((0 : Nat) + (1 : Nat))).toI)
 ((d2.el (↑i : Int).toNat (0 : Nat)).toI,
 (d2.el (↑i : Int).toNat ((0 : Nat) + (1 : Nat))).toI)).fst,
 D.i
 (rwdI
 ((d.el (↑i : Int).toNat (0 : Nat)).toI,
 (d.el (↑i : Int).toNat ((0 : Nat) + (1 : Nat))).toI)
 ((d2.el (↑i : Int).toNat (0 : Nat)).toI,
 (d2.el (↑i : Int).toNat ((0 : Nat) + (1 : Nat))).toI)).snd] =
 List.map
 (fun (j_1 : Nat) => if j_1 < j then cl (rf w (pr d j_1) (pr d2 j_1)) else d.rows.getD j_1 [])
 (List.range d.len) ∧
 l = l ∧
 h = h ∧
 d.rows = d.rows ∧
 l2 = l2 ∧ h2 = h2 ∧ d2.rows = d2.rows ∧ (0 : Int) = (0 : Int) ∧ (0 : Int) = (0 : Int)) ∧
 (w = false →
 ∃ (j : Nat),
 (j ≤ d.len ∧ d.len = d2.len) ∧
 d.len + (1 : Nat) - j < d.len + (1 : Nat) - i ∧
 IntKind.i64.wrap ((↑i : Int) + (1 : Int)) = (↑j : Int) ∧
 w = w ∧
 (rf w (l, h) (l2, h2)).fst = (rf w (l, h) (l2, h2)).fst ∧
 (rf w (l, h) (l2, h2)).snd = (rf w (l, h) (l2, h2)).snd ∧
 d.len = d.len ∧
 (List.map (fun (j : Nat) => if j < i then cl (rf w (pr d j) (pr d2 j)) else d.rows.getD j [])
 (List.range d.len)).set
 (↑i : Int).toNat
 [D.i
 (rjnI ((d.el (↑i : Int).toNat (0 : Nat)).toI, (d.el (↑i : Int).toNat ((0 : Nat) + (1 : Nat))).toI)
 ((d2.el (↑i : Int).toNat (0 : Nat)).toI,
 (d2.el (↑i : Int).toNat ((0 : Nat) + (1 : Nat))).toI)).fst,
 D.i
 (rjnI ((d.el (↑i : Int).toNat (0 : Nat)).toI, (d.el (↑i : Int).toNat ((0 : Nat) + (1 : Nat))).toI)
 ((d2.el (↑i : Int).toNat (0 : Nat)).toI,
 (d2.el (↑i : Int).toNat ((0 : Nat) + (1 : Nat))).toI)).snd] =
 List.map (fun (j_1 : Nat) => if j_1 < j then cl (rf w (pr d j_1) (pr d2 j_1)) else d.rows.getD j_1 [])
 (List.range d.len) ∧
 l = l ∧
 h = h ∧
 d.rows = d.rows ∧
 l2 = l2 ∧ h2 = h2 ∧ d2.rows = d2.rows ∧ (0 : Int) = (0 : Int) ∧ (0 : Int) = (0 : Int))) ∧
 (decide ((↑i : Int) < (↑d.len : Int)) = false →
 nat_lit 0 + d.len ≤ (mixD d (fun (j : Nat) => rf w (pr d j) (pr d2 j)) i).len ∧
 (rf w (l, h) (l2, h2)).fst = (twoL (rf w) (l, h) (l2, h2) d d2).fst ∧
 (rf w (l, h) (l2, h2)).snd = (twoL (rf w) (l, h) (l2, h2) d d2).snd ∧
 List.drop (nat_lit 0)
 (List.take (nat_lit 0 + d.len)
 (List.map (fun (j : Nat) => if j < i then cl (rf w (pr d j) (pr d2 j)) else d.rows.getD j []) (List.range d.len))) =
 (twoD (rf w) d d2).rows)))) (by kernel_rfl) ?_
    intro hd
    simp only [Int.toNat_natCast, mix_len]
    refine ⟨hd, fun c => ?_, fun c => ?_⟩
    · have c : ¬ d.len = d2.len := by intro e; rw [e] at c; simp at c
      unfold twoL twoD
      rw [if_neg c, if_neg c]
      exact ⟨(show 0 + d.len ≤ d.len by simp), rfl, rfl, full_len rfl⟩
    have hl : d.len = d2.len := by simp at c; omega
    have e1 : twoL (rf w) (l, h) (l2, h2) d d2 = rf w (l, h) (l2, h2) := if_pos hl
    have e2 : twoD (rf w) d d2 = prD d.len (fun j => rf w (pr d j) (pr d2 j)) := if_pos hl
    rw [e1, e2]
    cases w
    · refine ⟨(fun h => by cases h), fun _ => ⟨⟨0, ⟨Nat.zero_le _, hl⟩, rfl, ?_⟩, fun i hi => ⟨fun x => ?_, fun x => ?_⟩⟩⟩
      · (repeat' apply And.intro) <;> first | rfl | trivial | exact (mix_0 d (fun j => rf false (pr d j) (pr d2 j))).symm
      · have x : i < d.len := by simpa using x
        refine ⟨by omega, by omega, by omega, by omega, (fun h => by cases h), fun _ => ⟨i + 1, ⟨by omega, hl⟩, by omega, wr _ (by omega), ?_⟩⟩
        (repeat' apply And.intro) <;> first | rfl | trivial | exact mix_set (A := d) (g := fun j => rf false (pr d j) (pr d2 j)) x
      · have x : ¬ i < d.len := by simpa using x
        have e : i = d.len := by omega
        subst e
        (repeat' apply And.intro) <;> first | rfl | trivial | omega | exact (full_len (by simp)).trans (mix_n d (fun j => rf false (pr d j) (pr d2 j)))
    · refine ⟨fun _ => ⟨⟨0, ⟨Nat.zero_le _, hl⟩, rfl, ?_⟩, fun i hi => ⟨fun x => ?_, fun x => ?_⟩⟩, (fun h => by cases h)⟩
      · (repeat' apply And.intro) <;> first | rfl | trivial | exact (mix_0 d (fun j => rf true (pr d j) (pr d2 j))).symm
      · have x : i < d.len := by simpa using x
        refine ⟨by omega, by omega, by omega, by omega, fun _ => ⟨by omega, by omega, by omega, ?_, i + 1, ⟨by omega, hl⟩, by omega, wr _ (by omega), ?_⟩, (fun h => by cases h)⟩
        · show i < ((mixD d (fun j => rf true (pr d j) (pr d2 j)) i).rows.set i _).length
          rw [List.length_set]
          exact Nat.lt_of_lt_of_eq x (mix_len d _ i).symm
        (repeat' apply And.intro) <;> first | rfl | trivial | (rw [List.set_set]; exact mix_set (A := d) (g := fun j => rf true (pr d j) (pr d2 j)) x)
      · have x : ¬ i < d.len := by simpa using x
        have e : i = d.len := by omega
        subst e
        (repeat' apply And.intro) <;> first | rfl | trivial | omega | exact (full_len (by simp)).trans (mix_n d (fun j => rf true (pr d j) (pr d2 j)))
  · trivial
end Go.Proofs.Ytbcbcambkjhhhaa.Sx.Z
