/-
  queue.None, each, Join, Widen; the law's From.
-/
import Derived.Test.YtbcbcambkjhhhaaCb
import Derived.Test.YtbcbcambkjhhhaaQe
namespace Go.Proofs.Ytbcbcambkjhhhaa.Sx.Z
open Go.RowKit
/-- A value is this function. -/
def isFn (n : Nat) (v : Value) : Bool := match v with
  | .func (.func m) a b => Nat.beq m n && Nat.beq a.size 0 && Nat.beq b.size 0
  | _ => false
theorem isFn_eq {n : Nat} {v : Value} (h : isFn n v = true) : v = .func (.func n) #[] #[] := by
  unfold isFn at h
  split at h
  · rename_i m a b
    simp only [Bool.and_eq_true] at h
    obtain ⟨⟨h1, h2⟩, h3⟩ := h
    rw [Nat.eq_of_beq_eq_true h1, Array.eq_empty_of_size_eq_zero (Nat.eq_of_beq_eq_true h2), Array.eq_empty_of_size_eq_zero (Nat.eq_of_beq_eq_true h3)]
  · cases h
/-- Two rows, one by one. -/
def twoL (f : Int × Int → Int × Int → Int × Int) (a b : Int × Int) (A B : D) : Int × Int := if A.len = B.len then f a b else a
def twoD (f : Int × Int → Int × Int → Int × Int) (A B : D) : D := if A.len = B.len then prD A.len (fun j => f (pr A j) (pr B j)) else A
def mixD (A : D) (g : Nat → Int × Int) (k : Nat) : D := .l ((List.range A.len).map fun j => if j < k then cl (g j) else A.rows.getD j [])
theorem mix_len (A : D) (g : Nat → Int × Int) (k : Nat) : (mixD A g k).len = A.len := by show ((List.range A.len).map _).length = _; simp
theorem mix_0 (A : D) (g : Nat → Int × Int) : (mixD A g 0).rows = A.rows := by
  show (List.range A.rows.length).map _ = A.rows
  apply List.ext_getElem?
  intro q
  rw [List.getElem?_map]
  by_cases hq : q < A.rows.length
  · rw [List.getElem?_range hq, List.getElem?_eq_getElem hq]
    simp [List.getD_eq_getElem?_getD, List.getElem?_eq_getElem hq]
  · rw [List.getElem?_eq_none (by simpa using hq), List.getElem?_eq_none (by omega)]; rfl
theorem mix_set {A : D} {g : Nat → Int × Int} {k : Nat} (h : k < A.len) : (mixD A g k).rows.set k (cl (g k)) = (mixD A g (k + 1)).rows := by
  show ((List.range A.len).map fun j => if j < k then cl (g j) else A.rows.getD j []).set k (cl (g k)) = (List.range A.len).map fun j => if j < k + 1 then cl (g j) else A.rows.getD j []
  apply List.ext_getElem?
  intro q
  rw [List.getElem?_set, List.getElem?_map, List.getElem?_map]
  by_cases hq : q < A.len
  · rw [List.getElem?_range hq]
    by_cases h1 : k = q
    · subst h1; rw [if_pos rfl, if_pos (by simpa using h)]; simp
    · rw [if_neg h1]
      simp only [Option.map_some, Option.some.injEq]
      by_cases h2 : q < k
      · rw [if_pos h2, if_pos (by omega)]
      · rw [if_neg h2, if_neg (by omega)]
  · rw [List.getElem?_eq_none (by simpa using hq), if_neg (by omega)]; rfl
theorem mix_n (A : D) (g : Nat → Int × Int) : (mixD A g A.len).rows = (prD A.len g).rows := by
  show (List.range A.len).map _ = (List.range A.len).map _
  refine List.map_congr_left fun j hj => ?_
  rw [if_pos (List.mem_range.1 hj)]
noncomputable def qeachJS : FSpec := fun ds _ => match ds with
  | [.i l, .i h, .d d, .i l2, .i h2, .d d2, .v vf] => (match isFn 70 vf with | true => some { val := .one (.agg [.c (.int .i64 (.sym ((twoL jnI (l, h) (l2, h2) d d2).1))), .c (.int .i64 (.sym ((twoL jnI (l, h) (l2, h2) d d2).2))), .c (.rows 48 (twoD jnI d d2))]), vc := [d.len ≤ 8796093022208] } | false => none)
  | _ => none
noncomputable def qeachJC : Con := con [elA, elA, .sc .any] qeachJS
theorem qeachJ_ok : ConOK Try.prog 69 qeachJC := by
  refine fn_ob tt_ok mixed Try.func69 rfl (fun _ _ => by kernel_rfl) (A := fun ds => ⟨fun _ => Cons.of [(80, qcopiedC), (70, ijoinC)], fun k => match k, ds with | 6, [.i l, .i h, .d d, .i l2, .i h2, .d d2, .v vf] => some { ι := Nat, pre := fun _ k => k ≤ d.len ∧ d.len = d2.len, μ := fun k => d.len + 1 - k, st := fun s k => famR s [(30, .one (.sc (.int .i64 (.sym ((k : Nat))))))] [2, 3, 4, 6, 7, 28, 29] [(idOf s 7, .own 51 ([.c (.int .i64 (.sym ((jnI (l, h) (l2, h2)).1))), .c (.int .i64 (.sym ((jnI (l, h) (l2, h2)).2))), .c (.osl 48 (s.nx - 1) (.lit 0) (.sym d.len))])), (s.nx - 1, .orow 48 (mixD d (fun j => jnI (pr d j) (pr d2 j)) k))] [3, 4, 6] } | _, _ => none, fun _ => none⟩) (fun _ _ => (cons_cons qcopied_ok (cons_cons ijoin_ok cons_nil))) (by kernel_rfl) ?_
  intro ds fr
  unfold qeachJS
  split
  · rename_i l h d l2 h2 d2 vf
    split
    · rename_i hg
      obtain rfl := isFn_eq hg
      refine kmp (q := d.len ≤ (8796093022208 : Nat) →
 d.len ≤ (8796093022208 : Nat) ∧
 (((↑d.len : Int) != (↑d2.len : Int)) = true →
 nat_lit 0 + d.len ≤ d.len ∧
 l = (twoL jnI (l, h) (l2, h2) d d2).fst ∧
 h = (twoL jnI (l, h) (l2, h2) d d2).snd ∧ List.drop (nat_lit 0) (List.take (nat_lit 0 + d.len) d.rows) = (twoD jnI d d2).rows) ∧
 (((↑d.len : Int) != (↑d2.len : Int)) = false →
 (∃ (i : Nat),
 (i ≤ d.len ∧ d.len = d2.len) ∧
 (0 : Int) = (↑i : Int) ∧
 Value.func (Fn.func (70 : Nat)) #[] #[] = Value.func (Fn.func (70 : Nat)) #[] #[] ∧
 d2.rows = d2.rows ∧
 (↑d2.len : Int) = (↑d2.len : Int) ∧
 (jnI (l, h) (l2, h2)).fst = (jnI (l, h) (l2, h2)).fst ∧
 (jnI (l, h) (l2, h2)).snd = (jnI (l, h) (l2, h2)).snd ∧
 d.len = d.len ∧
 d.rows = List.map (fun (j : Nat) => if j < i then cl (jnI (pr d j) (pr d2 j)) else d.rows.getD j []) (List.range d.len) ∧
 l = l ∧ h = h ∧ d.rows = d.rows ∧ l2 = l2 ∧ h2 = h2 ∧ d2.rows = d2.rows ∧ (0 : Int) = (0 : Int) ∧ (0 : Int) = (0 : Int)) ∧
 ∀ (i : Nat),
 i ≤ d.len ∧ d.len = d2.len →
 (decide ((↑i : Int) < (↑d2.len : Int)) = true →
 ((0 : Int) ≤ (↑i : Int) ∧ (↑i : Int) < (↑d2.len : Int)) ∧
 ((0 : Int) ≤ (↑i : Int) ∧ (↑i : Int) < (↑d.len : Int)) ∧
 ((0 : Int) ≤ (↑i : Int) ∧ (↑i : Int) < (↑d.len : Int)) ∧
 (↑i : Int).toNat < (mixD d (fun (j : Nat) => jnI (pr d j) (pr d2 j)) i).len ∧
 ∃ (j : Nat),
 (j ≤ d.len ∧ d.len = d2.len) ∧
 d.len + (1 : Nat) - j < d.len + (1 : Nat) - i ∧
 IntKind.i64.wrap ((↑i : Int) + (1 : Int)) = (↑j : Int) ∧
 Value.func (Fn.func (70 : Nat)) #[] #[] = Value.func (Fn.func (70 : Nat)) #[] #[] ∧
 d2.rows = d2.rows ∧
 (↑d2.len : Int) = (↑d2.len : Int) ∧
 (jnI (l, h) (l2, h2)).fst = (jnI (l, h) (l2, h2)).fst ∧
 (jnI (l, h) (l2, h2)).snd = (jnI (l, h) (l2, h2)).snd ∧
 d.len = d.len ∧
 (List.map (fun (j : Nat) => if j < i then cl (jnI (pr d j) (pr d2 j)) else d.rows.getD j [])
 (List.range d.len)).set
 (↑i : Int).toNat
 [D.i
 (jnI ((d.el (↑i : Int).toNat (0 : Nat)).toI, (d.el (↑i : Int).toNat ((0 : Nat) + (1 : Nat))).toI)
 ((d2.el (↑i : Int).toNat (0 : Nat)).toI, (d2.el (↑i : Int).toNat ((0 : Nat) + (1 : Nat))).toI)).fst,
 D.i
 (jnI ((d.el (↑i : Int).toNat (0 : Nat)).toI, (d.el (↑i : Int).toNat ((0 : Nat) + (1 : Nat))).toI)
 ((d2.el (↑i : Int).toNat (0 : Nat)).toI,
 (d2.el (↑i : Int).toNat ((0 : Nat) + (1 : Nat))).toI)).snd] =
 List.map (fun (j_1 : Nat) => if j_1 < j then cl (jnI (pr d j_1) (pr d2 j_1)) else d.rows.getD j_1 [])
 (List.range d.len) ∧
 l = l ∧
 h = h ∧
 d.rows = d.rows ∧ l2 = l2 ∧ h2 = h2 ∧ d2.rows = d2.rows ∧ (0 : Int) = (0 : Int) ∧ (0 : Int) = (0 : Int)) ∧
 (decide ((↑i : Int) < (↑d2.len : Int)) = false →
 nat_lit 0 + d.len ≤ (mixD d (fun (j : Nat) => jnI (pr d j) (pr d2 j)) i).len ∧
 (jnI (l, h) (l2, h2)).fst = (twoL jnI (l, h) (l2, h2) d d2).fst ∧
 (jnI (l, h) (l2, h2)).snd = (twoL jnI (l, h) (l2, h2) d d2).snd ∧
 List.drop (nat_lit 0)
 (List.take (nat_lit 0 + d.len)
 (List.map (fun (j : Nat) => if j < i then cl (jnI (pr d j) (pr d2 j)) else d.rows.getD j []) (List.range d.len))) =
 (twoD jnI d d2).rows))) (by kernel_rfl) ?_
      intro hd
      have full : ∀ r : List (List D), r.length = d.len → (r.take (0 + d.len)).drop 0 = r := fun r hr => by rw [Nat.zero_add, List.drop_zero, ← hr, List.take_length]
      simp only [Int.toNat_natCast, mix_len]
      refine ⟨hd, fun c => ?_, fun c => ⟨⟨0, ⟨Nat.zero_le _, by simp at c; omega⟩, rfl, ?_⟩, fun i hi => ⟨fun x => ?_, fun x => ?_⟩⟩⟩
      · have c : ¬ d.len = d2.len := by intro e; rw [e] at c; simp at c
        unfold twoL twoD
        rw [if_neg c, if_neg c]
        exact ⟨by omega, rfl, rfl, full _ rfl⟩
      · (repeat' apply And.intro) <;> first | rfl | trivial | exact (mix_0 d (fun j => jnI (pr d j) (pr d2 j))).symm
      · have x : i < d2.len := by simpa using x
        obtain ⟨i1, i2⟩ := hi
        refine ⟨by omega, by omega, by omega, by omega, i + 1, ⟨by omega, i2⟩, by omega, wr _ (by omega), ?_⟩
        (repeat' apply And.intro) <;> first | rfl | trivial | exact mix_set (A := d) (g := (fun j => jnI (pr d j) (pr d2 j))) (by omega)
      · have x : ¬ i < d2.len := by simpa using x
        obtain ⟨i1, i2⟩ := hi
        have e : i = d.len := by omega
        subst e
        unfold twoL twoD
        rw [if_pos i2, if_pos i2]
        exact ⟨by omega, rfl, rfl, (full _ (by simp)).trans (mix_n d (fun j => jnI (pr d j) (pr d2 j)))⟩
    · trivial
  · trivial
noncomputable def qeachWS : FSpec := fun ds _ => match ds with
  | [.i l, .i h, .d d, .i l2, .i h2, .d d2, .v vf] => (match isFn 71 vf with | true => some { val := .one (.agg [.c (.int .i64 (.sym ((twoL wdI (l, h) (l2, h2) d d2).1))), .c (.int .i64 (.sym ((twoL wdI (l, h) (l2, h2) d d2).2))), .c (.rows 48 (twoD wdI d d2))]), vc := [d.len ≤ 8796093022208] } | false => none)
  | _ => none
noncomputable def qeachWC : Con := con [elA, elA, .sc .any] qeachWS
theorem qeachW_ok : ConOK Try.prog 69 qeachWC := by
  refine fn_ob tt_ok mixed Try.func69 rfl (fun _ _ => by kernel_rfl) (A := fun ds => ⟨fun _ => Cons.of [(80, qcopiedC), (71, iwidenC)], fun k => match k, ds with | 6, [.i l, .i h, .d d, .i l2, .i h2, .d d2, .v vf] => some { ι := Nat, pre := fun _ k => k ≤ d.len ∧ d.len = d2.len, μ := fun k => d.len + 1 - k, st := fun s k => famR s [(30, .one (.sc (.int .i64 (.sym ((k : Nat))))))] [2, 3, 4, 6, 7, 28, 29] [(idOf s 7, .own 51 ([.c (.int .i64 (.sym ((wdI (l, h) (l2, h2)).1))), .c (.int .i64 (.sym ((wdI (l, h) (l2, h2)).2))), .c (.osl 48 (s.nx - 1) (.lit 0) (.sym d.len))])), (s.nx - 1, .orow 48 (mixD d (fun j => wdI (pr d j) (pr d2 j)) k))] [3, 4, 6] } | _, _ => none, fun _ => none⟩) (fun _ _ => (cons_cons qcopied_ok (cons_cons iwiden_ok cons_nil))) (by kernel_rfl) ?_
  intro ds fr
  unfold qeachWS
  split
  · rename_i l h d l2 h2 d2 vf
    split
    · rename_i hg
      obtain rfl := isFn_eq hg
      refine kmp (q := d.len ≤ (8796093022208 : Nat) →
 d.len ≤ (8796093022208 : Nat) ∧
 (((↑d.len : Int) != (↑d2.len : Int)) = true →
 nat_lit 0 + d.len ≤ d.len ∧
 l = (twoL wdI (l, h) (l2, h2) d d2).fst ∧
 h = (twoL wdI (l, h) (l2, h2) d d2).snd ∧ List.drop (nat_lit 0) (List.take (nat_lit 0 + d.len) d.rows) = (twoD wdI d d2).rows) ∧
 (((↑d.len : Int) != (↑d2.len : Int)) = false →
 (∃ (i : Nat),
 (i ≤ d.len ∧ d.len = d2.len) ∧
 (0 : Int) = (↑i : Int) ∧
 Value.func (Fn.func (71 : Nat)) #[] #[] = Value.func (Fn.func (71 : Nat)) #[] #[] ∧
 d2.rows = d2.rows ∧
 (↑d2.len : Int) = (↑d2.len : Int) ∧
 (wdI (l, h) (l2, h2)).fst = (wdI (l, h) (l2, h2)).fst ∧
 (wdI (l, h) (l2, h2)).snd = (wdI (l, h) (l2, h2)).snd ∧
 d.len = d.len ∧
 d.rows = List.map (fun (j : Nat) => if j < i then cl (wdI (pr d j) (pr d2 j)) else d.rows.getD j []) (List.range d.len) ∧
 l = l ∧ h = h ∧ d.rows = d.rows ∧ l2 = l2 ∧ h2 = h2 ∧ d2.rows = d2.rows ∧ (0 : Int) = (0 : Int) ∧ (0 : Int) = (0 : Int)) ∧
 ∀ (i : Nat),
 i ≤ d.len ∧ d.len = d2.len →
 (decide ((↑i : Int) < (↑d2.len : Int)) = true →
 ((0 : Int) ≤ (↑i : Int) ∧ (↑i : Int) < (↑d2.len : Int)) ∧
 ((0 : Int) ≤ (↑i : Int) ∧ (↑i : Int) < (↑d.len : Int)) ∧
 ((0 : Int) ≤ (↑i : Int) ∧ (↑i : Int) < (↑d.len : Int)) ∧
 (↑i : Int).toNat < (mixD d (fun (j : Nat) => wdI (pr d j) (pr d2 j)) i).len ∧
 ∃ (j : Nat),
 (j ≤ d.len ∧ d.len = d2.len) ∧
 d.len + (1 : Nat) - j < d.len + (1 : Nat) - i ∧
 IntKind.i64.wrap ((↑i : Int) + (1 : Int)) = (↑j : Int) ∧
 Value.func (Fn.func (71 : Nat)) #[] #[] = Value.func (Fn.func (71 : Nat)) #[] #[] ∧
 d2.rows = d2.rows ∧
 (↑d2.len : Int) = (↑d2.len : Int) ∧
 (wdI (l, h) (l2, h2)).fst = (wdI (l, h) (l2, h2)).fst ∧
 (wdI (l, h) (l2, h2)).snd = (wdI (l, h) (l2, h2)).snd ∧
 d.len = d.len ∧
 (List.map (fun (j : Nat) => if j < i then cl (wdI (pr d j) (pr d2 j)) else d.rows.getD j [])
 (List.range d.len)).set
 (↑i : Int).toNat
 [D.i
 (wdI ((d.el (↑i : Int).toNat (0 : Nat)).toI, (d.el (↑i : Int).toNat ((0 : Nat) + (1 : Nat))).toI)
 ((d2.el (↑i : Int).toNat (0 : Nat)).toI, (d2.el (↑i : Int).toNat ((0 : Nat) + (1 : Nat))).toI)).fst,
 D.i
 (wdI ((d.el (↑i : Int).toNat (0 : Nat)).toI, (d.el (↑i : Int).toNat ((0 : Nat) + (1 : Nat))).toI)
 ((d2.el (↑i : Int).toNat (0 : Nat)).toI,
 (d2.el (↑i : Int).toNat ((0 : Nat) + (1 : Nat))).toI)).snd] =
 List.map (fun (j_1 : Nat) => if j_1 < j then cl (wdI (pr d j_1) (pr d2 j_1)) else d.rows.getD j_1 [])
 (List.range d.len) ∧
 l = l ∧
 h = h ∧
 d.rows = d.rows ∧ l2 = l2 ∧ h2 = h2 ∧ d2.rows = d2.rows ∧ (0 : Int) = (0 : Int) ∧ (0 : Int) = (0 : Int)) ∧
 (decide ((↑i : Int) < (↑d2.len : Int)) = false →
 nat_lit 0 + d.len ≤ (mixD d (fun (j : Nat) => wdI (pr d j) (pr d2 j)) i).len ∧
 (wdI (l, h) (l2, h2)).fst = (twoL wdI (l, h) (l2, h2) d d2).fst ∧
 (wdI (l, h) (l2, h2)).snd = (twoL wdI (l, h) (l2, h2) d d2).snd ∧
 List.drop (nat_lit 0)
 (List.take (nat_lit 0 + d.len)
 (List.map (fun (j : Nat) => if j < i then cl (wdI (pr d j) (pr d2 j)) else d.rows.getD j []) (List.range d.len))) =
 (twoD wdI d d2).rows))) (by kernel_rfl) ?_
      intro hd
      have full : ∀ r : List (List D), r.length = d.len → (r.take (0 + d.len)).drop 0 = r := fun r hr => by rw [Nat.zero_add, List.drop_zero, ← hr, List.take_length]
      simp only [Int.toNat_natCast, mix_len]
      refine ⟨hd, fun c => ?_, fun c => ⟨⟨0, ⟨Nat.zero_le _, by simp at c; omega⟩, rfl, ?_⟩, fun i hi => ⟨fun x => ?_, fun x => ?_⟩⟩⟩
      · have c : ¬ d.len = d2.len := by intro e; rw [e] at c; simp at c
        unfold twoL twoD
        rw [if_neg c, if_neg c]
        exact ⟨by omega, rfl, rfl, full _ rfl⟩
      · (repeat' apply And.intro) <;> first | rfl | trivial | exact (mix_0 d (fun j => wdI (pr d j) (pr d2 j))).symm
      · have x : i < d2.len := by simpa using x
        obtain ⟨i1, i2⟩ := hi
        refine ⟨by omega, by omega, by omega, by omega, i + 1, ⟨by omega, i2⟩, by omega, wr _ (by omega), ?_⟩
        (repeat' apply And.intro) <;> first | rfl | trivial | exact mix_set (A := d) (g := (fun j => wdI (pr d j) (pr d2 j))) (by omega)
      · have x : ¬ i < d2.len := by simpa using x
        obtain ⟨i1, i2⟩ := hi
        have e : i = d.len := by omega
        subst e
        unfold twoL twoD
        rw [if_pos i2, if_pos i2]
        exact ⟨by omega, rfl, rfl, (full _ (by simp)).trans (mix_n d (fun j => wdI (pr d j) (pr d2 j)))⟩
    · trivial
  · trivial
noncomputable def qjoinS : FSpec := fun ds _ => match ds with
  | [.i l, .i h, .d d, .i l2, .i h2, .d d2] => some { val := .one (.agg [.c (.int .i64 (.sym ((twoL jnI (l, h) (l2, h2) d d2).1))), .c (.int .i64 (.sym ((twoL jnI (l, h) (l2, h2) d d2).2))), .c (.rows 48 (twoD jnI d d2))]), vc := [d.len ≤ 8796093022208] }
  | _ => none
noncomputable def qjoinC : Con := con [elA, elA] qjoinS
theorem qjoin_ok : ConOK Try.prog 23 qjoinC := by
  refine fn_ob tt_ok mixed Try.func23 rfl (fun _ _ => by kernel_rfl) (A := fun ds => ⟨fun _ => Cons.of [(69, qeachJC)], fun _ => none, fun _ => none⟩) (fun _ _ => (cons_cons qeachJ_ok cons_nil)) (by kernel_rfl) ?_
  intro ds fr
  unfold qjoinS
  split
  · rename_i l h d l2 h2 d2
    refine kmp (q := d.len ≤ (8796093022208 : Nat) →
 d.len ≤ (8796093022208 : Nat) ∧
 (twoL jnI (l, h) (l2, h2) d d2).fst = (twoL jnI (l, h) (l2, h2) d d2).fst ∧
 (twoL jnI (l, h) (l2, h2) d d2).snd = (twoL jnI (l, h) (l2, h2) d d2).snd ∧ (twoD jnI d d2).rows = (twoD jnI d d2).rows) (by kernel_rfl) ?_
    intro hd
    exact ⟨hd, rfl, rfl, rfl⟩
  · trivial
noncomputable def qwidenS : FSpec := fun ds _ => match ds with
  | [.i l, .i h, .d d, .i l2, .i h2, .d d2] => some { val := .one (.agg [.c (.int .i64 (.sym ((twoL wdI (l, h) (l2, h2) d d2).1))), .c (.int .i64 (.sym ((twoL wdI (l, h) (l2, h2) d d2).2))), .c (.rows 48 (twoD wdI d d2))]), vc := [d.len ≤ 8796093022208] }
  | _ => none
noncomputable def qwidenC : Con := con [elA, elA] qwidenS
theorem qwiden_ok : ConOK Try.prog 24 qwidenC := by
  refine fn_ob tt_ok mixed Try.func24 rfl (fun _ _ => by kernel_rfl) (A := fun ds => ⟨fun _ => Cons.of [(69, qeachWC)], fun _ => none, fun _ => none⟩) (fun _ _ => (cons_cons qeachW_ok cons_nil)) (by kernel_rfl) ?_
  intro ds fr
  unfold qwidenS
  split
  · rename_i l h d l2 h2 d2
    refine kmp (q := d.len ≤ (8796093022208 : Nat) →
 d.len ≤ (8796093022208 : Nat) ∧
 (twoL wdI (l, h) (l2, h2) d d2).fst = (twoL wdI (l, h) (l2, h2) d d2).fst ∧
 (twoL wdI (l, h) (l2, h2) d d2).snd = (twoL wdI (l, h) (l2, h2) d d2).snd ∧ (twoD wdI d d2).rows = (twoD wdI d d2).rows) (by kernel_rfl) ?_
    intro hd
    exact ⟨hd, rfl, rfl, rfl⟩
  · trivial
noncomputable def qnoneS : FSpec := fun ds _ => match ds with
  | [.i _kd, .i _size, .i _frm, .i _dst, .i tags, .d _rl] => some { val := .one (.agg [.c (.int .i64 (.lit 0)), .c (.int .i64 (.lit 0)), .c (.rows 48 (prD tags.toNat (fun _ => (1, 0))))]), vc := [1 ≤ tags ∧ tags ≤ 4] }
  | _ => none
noncomputable def qnoneC : Con := con [chA] qnoneS
theorem rows_slice {fz : Fz} {e : TypeId} {d : D} {v : Value} (h : TRel fz (.slice e) d v) : ∃ A n c, v = .slice A n c := by
  generalize hk : K.slice e = k at h
  cases h with
  | int k d => cases hk
  | bool d => cases hk
  | str d => cases hk
  | nil e d h0 => exact ⟨_, _, _, rfl⟩
  | empty e d a c h0 => exact ⟨_, _, _, rfl⟩
  | slice e d b o c u _ _ _ => exact ⟨_, _, _, rfl⟩
theorem none_out {ck cs cf ct tags : Int} (ht : 1 ≤ tags ∧ tags ≤ 4) (R : Option Addr) (rn rc : Nat) (w : World) : Calls Try.prog 30 #[.agg #[.int .i64 ck, .int .i64 cs, .int .i64 cf, .int .i64 ct, .int .i64 tags, .slice R rn rc]] w fun e w' => ∃ g cap cur, e = .returned (.agg #[.int .i64 0, .int .i64 0, .slice (some ⟨g, 0, none⟩) tags.toNat cap]) ∧ w.heap.size ≤ g ∧ w'.heap[g]? = some (.cells cur 48 (0, 0)) ∧ tags.toNat ≤ cap ∧ (∀ i, i < tags.toNat → cur[i * 2]? = some (.int .i64 1) ∧ cur[i * 2 + 1]? = some (.int .i64 0)) ∧ Below w.heap.size w w' := by
  have key : ∀ {n : Nat} {e : Ending} {w' : World}, n ≤ 4 → 1 ≤ n → ElemOut w 0 0 (List.replicate n (1, 0)) e w' → ∃ g cap cur, e = .returned (.agg #[.int .i64 0, .int .i64 0, .slice (some ⟨g, 0, none⟩) n cap]) ∧ w.heap.size ≤ g ∧ w'.heap[g]? = some (.cells cur 48 (0, 0)) ∧ n ≤ cap ∧ (∀ i, i < n → cur[i * 2]? = some (.int .i64 1) ∧ cur[i * 2 + 1]? = some (.int .i64 0)) ∧ Below w.heap.size w w' := fun {n e w'} hn4 hn1 h => by
    obtain ⟨g, cap, rfl, hel, hb⟩ := h
    rw [List.length_replicate] at *
    unfold ElemAt at hel
    rw [List.length_replicate] at hel
    obtain ⟨_, h2⟩ := hel
    rcases h2 with ⟨h2, _⟩ | ⟨g', cap', cur, h2, h3, h4, h5, _, h7, h8⟩
    · cases h2
    · obtain ⟨e1, _, e2⟩ := Value.slice.inj h2
      have e1 := Option.some.inj e1
      obtain rfl : g = g' := congrArg Addr.block e1
      subst e2
      refine ⟨g, cap, cur, rfl, h3, h4, h5, fun i hi => ?_, hb⟩
      have at_ : ∀ j u, (Go.Proofs.Ytbcbcambkjhhhaa.cellsOf (List.replicate n ((1 : Int), (0 : Int))))[j]? = some u → cur[j]? = some u := fun j u hj => by
        rw [← h8] at hj
        rw [List.getElem?_take] at hj
        split at hj
        · simpa using hj
        · cases hj
      have : n = 1 ∨ n = 2 ∨ n = 3 ∨ n = 4 := by omega
      rcases this with rfl | rfl | rfl | rfl
      · have : i = 0 := by omega
        subst this; exact ⟨at_ _ _ rfl, at_ _ _ rfl⟩
      · have : i = 0 ∨ i = 1 := by omega
        rcases this with rfl | rfl <;> exact ⟨at_ _ _ rfl, at_ _ _ rfl⟩
      · have : i = 0 ∨ i = 1 ∨ i = 2 := by omega
        rcases this with rfl | rfl | rfl <;> exact ⟨at_ _ _ rfl, at_ _ _ rfl⟩
      · have : i = 0 ∨ i = 1 ∨ i = 2 ∨ i = 3 := by omega
        rcases this with rfl | rfl | rfl | rfl <;> exact ⟨at_ _ _ rfl, at_ _ _ rfl⟩
  have ht' : tags = 1 ∨ tags = 2 ∨ tags = 3 ∨ tags = 4 := by omega
  rcases ht' with rfl | rfl | rfl | rfl
  · exact (none_1 ck cs cf ct R rn rc w).mono fun e w' h => key (n := 1) (by omega) (by omega) h
  · exact (none_2 ck cs cf ct R rn rc w).mono fun e w' h => key (n := 2) (by omega) (by omega) h
  · exact (none_3 ck cs cf ct R rn rc w).mono fun e w' h => key (n := 3) (by omega) (by omega) h
  · exact (none_4 ck cs cf ct R rn rc w).mono fun e w' h => key (n := 4) (by omega) (by omega) h
theorem qnone_ok : ConOK Try.prog 30 qnoneC := by
  refine ⟨fun _ _ => by kernel_rfl, fun hp fr args e he hv w0 w ρ vs hw _ ha => ?_⟩
  unfold qnoneC con at he
  split at he
  · rename_i ds ps hds
    split at he
    · rename_i e1 he1
      unfold qnoneS at he1
      split at he1
      · rename_i kd size frm dst tags rl
        obtain rfl := Option.some.inj he1
        obtain rfl := Option.some.inj he
        obtain ⟨hp1, hp2⟩ := all_append.1 hv
        obtain ⟨svs, h, ρ1, id, hun, _, _, hrel⟩ := unP_spec hw [chA] args _ ps hds hp1 vs ha (ids := keepOwn hp (idsL args)) (fun i hi ho => keepOwn_mem.2 ⟨hi, ho⟩) 0
        obtain rfl : svs = _ := (congrArg Prod.fst (Option.some.inj hun)).symm
        have ht : 1 ≤ tags ∧ tags ≤ 4 := hp2.1
        match vs, hrel with
        | [x], ⟨⟨⟨l⟩, hx, hlen, hcs⟩, _⟩ =>
          subst hx
          match l, hlen with
          | [a0, a1, a2, a3, a4, a5], _ =>
            have e0 : a0 = .int .i64 kd := hcs 0 _ a0 rfl rfl
            have e1 : a1 = .int .i64 size := hcs 1 _ a1 rfl rfl
            have e2 : a2 = .int .i64 frm := hcs 2 _ a2 rfl rfl
            have e3 : a3 = .int .i64 dst := hcs 3 _ a3 rfl rfl
            have e4 : a4 = .int .i64 tags := hcs 4 _ a4 rfl rfl
            obtain ⟨R, rn, rc, e5⟩ := rows_slice (show TRel _ (.slice _) rl a5 from hcs 5 _ a5 rfl rfl)
            rw [e0, e1, e2, e3, e4, e5]
            refine (none_out ht R rn rc w).mono ?_
            rintro en w' ⟨g, cap, cur, rfl, hg, hcur, hcap, hcell, hb⟩
            have hgn : ρ.fz g = none := hw.froz.new hg
            refine ⟨{ ρ with fz := fun b => if b = g then some cur else ρ.fz b }, _, rfl, ?_, ⟨⟨fun _ _ h => h, fun _ _ => rfl, fun b cs hb => ?_, rfl, rfl⟩, fun _ _ => rfl, hb.mono (Nat.zero_le _), fun b hlt _ => hb.block b hlt, fun i x hx => ?_, fun i x hx => ?_, fun i j x y hx => ?_, fun b cs hcs => ?_⟩⟩
            · refine ⟨_, rfl, rfl, fun i x v hx hv => ?_⟩
              match i with
              | 0 => obtain rfl := Option.some.inj hx; obtain rfl := Option.some.inj hv; rfl
              | 1 => obtain rfl := Option.some.inj hx; obtain rfl := Option.some.inj hv; rfl
              | 2 =>
                obtain rfl := Option.some.inj hx
                obtain rfl := Option.some.inj hv
                have hl := prD_len tags.toNat (fun _ => (1, 0))
                have hk : eks 48 = [.int .i64, .int .i64] := rfl
                rw [show Value.slice (some ⟨g, 0, none⟩) tags.toNat cap = Value.slice (some ⟨g, 0, none⟩) (prD tags.toNat (fun _ => (1, 0))).len cap by rw [hl]]
                refine .slice _ _ _ _ _ (fun i j => if j = 0 then .int .i64 1 else .int .i64 0) (by omega) (fun i j hi hj => ?_) (fun i j k hi hkk => ?_)
                · have hc := hcell i (by omega)
                  have hj : j = 0 ∨ j = 1 := by have : (eks 48).length = 2 := rfl; omega
                  show Fz.cell (fun b => if b = g then some cur else ρ.fz b) g (0 + i * 2 + j) = _
                  have ef : (fun b => if b = g then some cur else ρ.fz b) g = some cur := if_pos rfl
                  unfold Fz.cell
                  rw [ef]
                  rcases hj with rfl | rfl
                  · rw [Nat.zero_add, Nat.add_zero]; exact hc.1
                  · rw [Nat.zero_add]; exact hc.2
                · have pe := prD_el (n := tags.toNat) (j := i) (by omega) (fun _ => ((1 : Int), (0 : Int)))
                  have p0 : ((prD tags.toNat (fun _ => (1, 0))).el i 0).toI = 1 := congrArg Prod.fst pe
                  have p1 : ((prD tags.toNat (fun _ => (1, 0))).el i 1).toI = 0 := congrArg Prod.snd pe
                  match j with
                  | 0 =>
                    obtain rfl : .int .i64 = k := Option.some.inj hkk
                    have := TRel.int (fz := fun b => if b = g then some cur else ρ.fz b) .i64 ((prD tags.toNat (fun _ => (1, 0))).el i 0)
                    rw [p0] at this
                    exact this
                  | 1 =>
                    obtain rfl : .int .i64 = k := Option.some.inj hkk
                    have := TRel.int (fz := fun b => if b = g then some cur else ρ.fz b) .i64 ((prD tags.toNat (fun _ => (1, 0))).el i 1)
                    rw [p1] at this
                    exact this
                  | j + 2 => cases hkk
              | i + 3 => cases hx
            · show (if b = g then some cur else ρ.fz b) = some cs
              split
              · rename_i hbg; rw [hbg, hgn] at hb; cases hb
              · exact hb
            · rw [(kills_look (show look (kills (keepOwn hp (idsL args))) i = some x from hx)).1]; trivial
            · cases hx
            · cases hx
            · have hcs : (if b = g then some cur else ρ.fz b) = some cs := hcs
              split at hcs
              · rename_i hbg
                obtain rfl := Option.some.inj hcs
                rw [hbg]
                exact .inr ⟨.inl hg, ⟨_, _, hcur⟩, fun i x hx => by cases hx⟩
              · exact .inl hcs
      · cases he1
    · cases he
  · cases he
end Go.Proofs.Ytbcbcambkjhhhaa.Sx.Z
