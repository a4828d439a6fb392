/-
  flow.Out; the edges of a node; which tags none of them has.; trans: isStranger, with its function literals.; Itvs joined, widened: the program's, and the reference's.; queue: small calls, Send, Has, Within.; itv's small calls: what they tell, plainly.; itv's and the reference's calls of two: within, either, both, as far as may be, back again.; The least and the greatest of four numbers; what is made of the ends of two.; Do of sums and differences, and of nothing; Neg; what every law of layer 8 asks.; Regions that draw their order, where two blocks are made beside calls: what is carried through.; A block that is made behind two stores.; queue's copies: rows of Itvs of one's own.; copy of elements of any size; slices.Repeat of one Itv.; slices.Repeat of the empty Itv, one to four times.
-/
import Derived.Test.YtlgmofjjjhbgkaaGreatJt16
import Derived.Test.YtlgmofjjjhbgkaaGreatJt15
import Derived.Test.YtlgmofjjjhbgkaaGreatJt13
import Derived.Test.YtlgmofjjjhbgkaaGreatChecked
import Derived.WalkKit
import Derived.ProofKit
import Derived.Below
import Derived.Handy
import Derived.Lib.Hide
import Derived.IntWalk
import Derived.Deep.WholeRow
import Derived.Deep.Cut
import Derived.Deep.RegionHeld3
import Derived.Deep.CutRange
import Derived.Deep.AppendLies
import Derived.Laws.OwnMore
import Derived.Maps.AppendAt
import Derived.Deep.RegionLaw
import Derived.RegionTactic
import Derived.Outline
import Derived.Laws.CopyOwn
namespace Go.Proofs.YtlgmofjjjhbgkaaGreat.Sx.Z
open Go.RowKit
def outL (ge : D) (nd : Int) (k : Nat) : List Nat := (List.range k).filter fun (j : Nat) => (ge.el j 0).toI == nd
def outD (ge : D) (nd : Int) (k : Nat) : D := .l ((outL ge nd k).map fun (j : Nat) => [D.i (j : Int)])
theorem outL_yes {ge : D} {nd : Int} {k : Nat} (h : ((ge.el k 0).toI == nd) = true) : outL ge nd (k + 1) = outL ge nd k ++ [k] := by
  unfold outL
  rw [List.range_succ, List.filter_append, List.filter_cons, if_pos h]; rfl
theorem outL_no {ge : D} {nd : Int} {k : Nat} (h : ((ge.el k 0).toI == nd) = false) : outL ge nd (k + 1) = outL ge nd k := by
  unfold outL
  rw [List.range_succ, List.filter_append, List.filter_cons, if_neg (by rw [h]; decide), List.filter_nil, List.append_nil]
theorem outD_len (ge : D) (nd : Int) (k : Nat) : (outD ge nd k).len = (outL ge nd k).length := List.length_map ..
theorem outL_le (ge : D) (nd : Int) (k : Nat) : (outL ge nd k).length ≤ k := Nat.le_trans (List.length_filter_le _ _) (by simp)
theorem outD_el {ge : D} {nd : Int} {k j : Nat} (h : j < (outL ge nd k).length) : (outD ge nd k).el j 0 = .i ((outL ge nd k)[j] : Nat) := by
  unfold D.el
  show (((outL ge nd k).map fun (j : Nat) => [D.i (j : Int)]).getD j []).getD 0 (.i 0) = _
  have e : ((outL ge nd k).map fun (j : Nat) => [D.i (j : Int)]).getD j [] = [D.i ((outL ge nd k)[j] : Nat)] := by
    rw [List.getD_eq_getElem?_getD, List.getElem?_map, List.getElem?_eq_getElem h]; rfl
  rw [e]; rfl
theorem outL_at {ge : D} {nd : Int} {k j : Nat} (h : j < (outL ge nd k).length) : (outL ge nd k)[j] < k := List.mem_range.1 (List.mem_filter.1 (List.getElem_mem h)).1
theorem outL_pos {ge : D} {nd : Int} {k n : Nat} (h : k < n) (hk : ((ge.el k 0).toI == nd) = true) : 0 < (outL ge nd n).length :=
  List.length_pos_of_mem (a := k) (List.mem_filter.2 ⟨List.mem_range.2 h, hk⟩)
noncomputable def foutS : FSpec := fun ds _ => match ds with
  | [.i _n, .d ge, .d _gh, .i nd] => some { val := .one (.sc (.rows 3 (outD ge nd ge.len))), vc := [ge.len ≤ 1000000] }
  | _ => none
noncomputable def foutC : Con := con [.agg [.c (.int .i64), .c (.rows 31), .c (.rows 3)], iA] foutS
theorem fout_ok : ConOK Tryz.prog 113 foutC := by
  refine fn_ob tt_ok mixed Tryz.func113 rfl (fun _ _ => by kernel_rfl) (A := fun ds => ⟨fun _ => Cons.of [], fun k => match k, ds with | 3, [.i n, .d ge, .d gh, .i nd] => some { ι := Nat, pre := fun _ k => k ≤ ge.len, μ := fun k => ge.len + 1 - k, st := fun s k => famR s [(11, .one (.sc (.int .i64 (.sym ((k : Nat)))))), (5, .one (.sc (.osl 3 (s.nx - 1) (.lit 0) (.sym ((outD ge nd k).len)))))] [1, 9, 10] [(s.nx - 1, .orow 3 (outD ge nd k))] [] } | _, _ => none, fun _ => none⟩) (fun _ _ => cons_nil) (by kernel_rfl) ?_
  intro ds fr
  unfold foutS
  split
  · rename_i n ge gh nd
    refine kmp (q := ge.len ≤ 1000000 → (∃ (i : Nat), i.le ge.len ∧ (0 : Int) = (↑i : Int) ∧ (outD ge nd i).len = 0 ∧ nd = nd ∧ ge.rows = ge.rows ∧ (↑ge.len : Int) = (↑ge.len : Int) ∧ List.map (fun (j : Nat) => [D.i (↑j : Int)]) (outL ge nd i) = []) ∧ ∀ (i : Nat), i.le ge.len → (decide ((↑i : Int) < (↑ge.len : Int)) = true → ((0 : Int) ≤ (↑i : Int) ∧ (↑i : Int) < (↑ge.len : Int)) ∧ (((ge.el (↑i : Int).toNat 0).toI == nd) = true → (outD ge nd i).len = (outD ge nd i).len ∧ ((outD ge nd i).len + ((D.l [[D.i (↑i : Int)]]).sub 0 (0 + 1)).len) * 8 ≤ 140737488355328 ∧ 0 + 1 ≤ (D.l [[D.i (↑i : Int)]]).len ∧ ∃ (j : Nat), j.le ge.len ∧ ge.len + 1 - j < ge.len + 1 - i ∧ IntKind.i64.wrap ((↑i : Int) + (1 : Int)) = (↑j : Int) ∧ (outD ge nd i).len + ((D.l [[D.i (↑i : Int)]]).sub 0 (0 + 1)).len = (outD ge nd j).len ∧ nd = nd ∧ ge.rows = ge.rows ∧ (↑ge.len : Int) = (↑ge.len : Int) ∧ List.map (fun (j : Nat) => [D.i (↑j : Int)]) (outL ge nd i) ++ List.drop 0 (List.take (0 + 1) [[D.i (↑i : Int)]]) = List.map (fun (j : Nat) => [D.i (↑j : Int)]) (outL ge nd j)) ∧ (((ge.el (↑i : Int).toNat 0).toI == nd) = false → ∃ (j : Nat), j.le ge.len ∧ ge.len + 1 - j < ge.len + 1 - i ∧ IntKind.i64.wrap ((↑i : Int) + (1 : Int)) = (↑j : Int) ∧ (outD ge nd i).len = (outD ge nd j).len ∧ nd = nd ∧ ge.rows = ge.rows ∧ (↑ge.len : Int) = (↑ge.len : Int) ∧ List.map (fun (j : Nat) => [D.i (↑j : Int)]) (outL ge nd i) = List.map (fun (j : Nat) => [D.i (↑j : Int)]) (outL ge nd j))) ∧ (decide ((↑i : Int) < (↑ge.len : Int)) = false → 0 + (outD ge nd i).len ≤ (outD ge nd i).len ∧ List.drop (0) (List.take (0 + (outD ge nd i).len) (List.map (fun (j : Nat) => [D.i (↑j : Int)]) (outL ge nd i))) = List.map (fun (j : Nat) => [D.i (↑j : Int)]) (outL ge nd ge.len))) (by kernel_rfl) ?_
    intro hc
    have el : ∀ i (x : D), (outD ge nd i).len + ((D.l [[x]]).sub 0 (0 + 1)).len = (outD ge nd i).len + 1 := fun _ _ => rfl
    have e0 : ∀ (i : Nat), ((i : Int)).toNat = i := fun i => Int.toNat_natCast i
    refine ⟨⟨0, Nat.zero_le _, rfl, rfl, rfl, rfl, rfl, rfl⟩, fun i hi => ⟨fun hl => ?_, fun hl => ?_⟩⟩
    · have hl : (i : Int) < (ge.len : Int) := of_decide_eq_true hl
      have hw : IntKind.i64.wrap ((i : Int) + 1) = ((i + 1 : Nat) : Int) := by rw [IntWalk.i64_in _ (by omega)]; omega
      have hlt := outL_le ge nd i
      have hle := outD_len ge nd i
      refine ⟨⟨by omega, hl⟩, fun hq => ?_, fun hq => ?_⟩
      · rw [e0] at hq
        have e1 := outL_yes hq
        refine ⟨rfl, by rw [el]; omega, Nat.le_refl _, i + 1, (by omega : i + 1 ≤ ge.len), by omega, hw, ?_, rfl, rfl, rfl, ?_⟩
        · rw [el, outD_len, outD_len, e1, List.length_append]; rfl
        · rw [e1, List.map_append]; rfl
      · rw [e0] at hq
        have e1 := outL_no hq
        refine ⟨i + 1, (by omega : i + 1 ≤ ge.len), by omega, hw, ?_, rfl, rfl, rfl, ?_⟩
        · rw [outD_len, outD_len, e1]
        · rw [e1]
    · have hl : ¬ (i : Int) < (ge.len : Int) := of_decide_eq_false hl
      have hi' : i ≤ ge.len := hi
      have : i = ge.len := by omega
      subst this
      refine ⟨by omega, ?_⟩
      rw [Nat.zero_add, outD_len, List.drop_zero, List.take_of_length_le (by rw [List.length_map]; exact Nat.le_refl _)]
  · trivial
def outE (ge : D) (nd : Int) (k : Nat) : D := .l ((List.range k).map fun (j : Nat) => cEd ge ((outD ge nd ge.len).el j 0).toI.toNat)
def outA (ge : D) (nd : Int) : D := outE ge nd (outD ge nd ge.len).len
noncomputable def oedgesS : FSpec := fun ds _ => match ds with
  | [.d _ch, .d _gr, .d _va, .d _el, .d _df, .i _gn, .d ge, .d _gh, .i ed, .b _c, .d _I, .i _n, .b _e, .f _f, .d _cn, .d _ru, .i _sc, .i _sg, .i _s0, .i _s1, .d _ks] => some { val := .one (.sc (.rows 31 (outA ge ((ge.el ed.toNat 0).toI)))), vc := [0 ≤ ed ∧ ed < ge.len, ge.len ≤ 1000000] }
  | _ => none
noncomputable def oedgesC : Con := con [.ptr [.c (.rows 73), .c (.rows 35), .c (.rows 3), .c (.rows 75), .c (.rows 4), .c (.int .i64), .c (.rows 31), .c (.rows 3), .c (.int .i64), .c .bool, .c (.rows 53), .c (.int .i64), .c .bool, .ints .i64 49, .c (.rows 53), .c (.rows 93), .c (.int .i64), .c (.int .i64), .c (.int .i64), .c (.int .i64), .c (.rows 3)]] oedgesS
theorem oedges_ok : ConOK Tryz.prog 116 oedgesC := by
  refine fn_ob tt_ok mixed Tryz.func116 rfl (fun _ _ => by kernel_rfl) (A := fun ds => ⟨fun _ => Cons.of [(113, foutC)], fun k => match k, ds with | 3, [.d ch, .d gr, .d va, .d el, .d df, .i gn, .d ge, .d gh, .i ed, .b c, .d I, .i n, .b e, .f f, .d cn, .d ru, .i sc, .i sg, .i s0, .i s1, .d ks] => some { ι := Nat, pre := fun _ k => k ≤ (outD ge ((ge.el ed.toNat 0).toI) ge.len).len, μ := fun k => (outD ge ((ge.el ed.toNat 0).toI) ge.len).len + 1 - k, st := fun s k => famR s [(24, .one (.sc (.int .i64 (.sym ((k : Nat)))))), (3, .one (.sc (.osl 31 (s.nx - 1) (.lit 0) (.sym (k)))))] [0, 22, 23] [(s.nx - 1, .orow 31 (outE ge ((ge.el ed.toNat 0).toI) k))] [0] } | _, _ => none, fun _ => none⟩) (fun _ _ => (cons_cons fout_ok cons_nil)) (by kernel_rfl) ?_
  intro ds fr
  unfold oedgesS
  split
  · rename_i ch gr va el df gn ge gh ed c I n e f cn ru sc sg s0 s1 ks
    refine kmp (q := (0 : Int) ≤ ed ∧ ed < (↑ge.len : Int) → ge.len ≤ 1000000 → ((0 : Int) ≤ ed ∧ ed < (↑ge.len : Int)) ∧ ge.len ≤ 1000000 ∧ (∃ (i : Nat), i.le (outD ge (ge.el ed.toNat 0).toI ge.len).len ∧ (0 : Int) = (↑i : Int) ∧ i = 0 ∧ List.map (fun (j : Nat) => [D.i (↑j : Int)]) (outL ge (ge.el ed.toNat (0 + 0)).toI ge.len) = List.map (fun (j : Nat) => [D.i (↑j : Int)]) (outL ge (ge.el ed.toNat (0 + 0)).toI ge.len) ∧ (↑(outD ge (ge.el ed.toNat (0 + 0)).toI ge.len).len : Int) = (↑(outD ge (ge.el ed.toNat (0 + 0)).toI ge.len).len : Int) ∧ List.map (fun (j : Nat) => cEd ge ((outD ge (ge.el ed.toNat 0).toI ge.len).el j 0).toI.toNat) (List.range i) = [] ∧ ch.rows = ch.rows ∧ gr.rows = gr.rows ∧ va.rows = va.rows ∧ el.rows = el.rows ∧ df.rows = df.rows ∧ gn = gn ∧ ge.rows = ge.rows ∧ gh.rows = gh.rows ∧ ed = ed ∧ c = c ∧ I.rows = I.rows ∧ n = n ∧ e = e ∧ (∀ (o : Nat), o < 49 → f o = f o) ∧ cn.rows = cn.rows ∧ ru.rows = ru.rows ∧ sc = sc ∧ sg = sg ∧ s0 = s0 ∧ s1 = s1 ∧ ks.rows = ks.rows) ∧ ∀ (i : Nat), i.le (outD ge (ge.el ed.toNat 0).toI ge.len).len → (decide ((↑i : Int) < (↑(outD ge (ge.el ed.toNat (0 + 0)).toI ge.len).len : Int)) = true → ((0 : Int) ≤ (↑i : Int) ∧ (↑i : Int) < (↑(outD ge (ge.el ed.toNat (0 + 0)).toI ge.len).len : Int)) ∧ ((0 : Int) ≤ ((outD ge (ge.el ed.toNat (0 + 0)).toI ge.len).el (↑i : Int).toNat 0).toI ∧ ((outD ge (ge.el ed.toNat (0 + 0)).toI ge.len).el (↑i : Int).toNat 0).toI < (↑ge.len : Int)) ∧ i = (outE ge (ge.el ed.toNat 0).toI i).len ∧ (i + ((D.l [[D.i (ge.el ((outD ge (ge.el ed.toNat (0 + 0)).toI ge.len).el (↑i : Int).toNat 0).toI.toNat 0).toI, D.i (ge.el ((outD ge (ge.el ed.toNat (0 + 0)).toI ge.len).el (↑i : Int).toNat 0).toI.toNat (0 + 1)).toI, D.i (ge.el ((outD ge (ge.el ed.toNat (0 + 0)).toI ge.len).el (↑i : Int).toNat 0).toI.toNat (0 + 1 + 1)).toI, D.i (ge.el ((outD ge (ge.el ed.toNat (0 + 0)).toI ge.len).el (↑i : Int).toNat 0).toI.toNat (0 + 1 + 1 + 1)).toI, D.i (ge.el ((outD ge (ge.el ed.toNat (0 + 0)).toI ge.len).el (↑i : Int).toNat 0).toI.toNat (0 + 1 + 1 + 1 + 1)).toI, D.i (ge.el ((outD ge (ge.el ed.toNat (0 + 0)).toI ge.len).el (↑i : Int).toNat 0).toI.toNat (0 + 1 + 1 + 1 + 1 + 1)).toI, D.i (ge.el ((outD ge (ge.el ed.toNat (0 + 0)).toI ge.len).el (↑i : Int).toNat 0).toI.toNat (0 + 1 + 1 + 1 + 1 + 1 + 1)).toI, D.i (ge.el ((outD ge (ge.el ed.toNat (0 + 0)).toI ge.len).el (↑i : Int).toNat 0).toI.toNat (0 + 1 + 1 + 1 + 1 + 1 + 1 + 1)).toI, D.i (ge.el ((outD ge (ge.el ed.toNat (0 + 0)).toI ge.len).el (↑i : Int).toNat 0).toI.toNat (0 + 1 + 1 + 1 + 1 + 1 + 1 + 1 + 1)).toI, ge.el ((outD ge (ge.el ed.toNat (0 + 0)).toI ge.len).el (↑i : Int).toNat 0).toI.toNat (0 + 1 + 1 + 1 + 1 + 1 + 1 + 1 + 1 + 1), D.i (ge.el ((outD ge (ge.el ed.toNat (0 + 0)).toI ge.len).el (↑i : Int).toNat 0).toI.toNat (0 + 1 + 1 + 1 + 1 + 1 + 1 + 1 + 1 + 1 + 1)).toI, D.i (ge.el ((outD ge (ge.el ed.toNat (0 + 0)).toI ge.len).el (↑i : Int).toNat 0).toI.toNat (0 + 1 + 1 + 1 + 1 + 1 + 1 + 1 + 1 + 1 + 1 + 1)).toI, D.i (ge.el ((outD ge (ge.el ed.toNat (0 + 0)).toI ge.len).el (↑i : Int).toNat 0).toI.toNat (0 + 1 + 1 + 1 + 1 + 1 + 1 + 1 + 1 + 1 + 1 + 1 + 1)).toI, D.i (ge.el ((outD ge (ge.el ed.toNat (0 + 0)).toI ge.len).el (↑i : Int).toNat 0).toI.toNat (0 + 1 + 1 + 1 + 1 + 1 + 1 + 1 + 1 + 1 + 1 + 1 + 1 + 1)).toI, ge.el ((outD ge (ge.el ed.toNat (0 + 0)).toI ge.len).el (↑i : Int).toNat 0).toI.toNat (0 + 1 + 1 + 1 + 1 + 1 + 1 + 1 + 1 + 1 + 1 + 1 + 1 + 1 + 1), D.i (ge.el ((outD ge (ge.el ed.toNat (0 + 0)).toI ge.len).el (↑i : Int).toNat 0).toI.toNat (0 + 1 + 1 + 1 + 1 + 1 + 1 + 1 + 1 + 1 + 1 + 1 + 1 + 1 + 1 + 1)).toI, D.i (ge.el ((outD ge (ge.el ed.toNat (0 + 0)).toI ge.len).el (↑i : Int).toNat 0).toI.toNat (0 + 1 + 1 + 1 + 1 + 1 + 1 + 1 + 1 + 1 + 1 + 1 + 1 + 1 + 1 + 1 + 1)).toI, D.i (ge.el ((outD ge (ge.el ed.toNat (0 + 0)).toI ge.len).el (↑i : Int).toNat 0).toI.toNat (0 + 1 + 1 + 1 + 1 + 1 + 1 + 1 + 1 + 1 + 1 + 1 + 1 + 1 + 1 + 1 + 1 + 1)).toI, ge.el ((outD ge (ge.el ed.toNat (0 + 0)).toI ge.len).el (↑i : Int).toNat 0).toI.toNat (0 + 1 + 1 + 1 + 1 + 1 + 1 + 1 + 1 + 1 + 1 + 1 + 1 + 1 + 1 + 1 + 1 + 1 + 1)]]).sub 0 (0 + 1)).len) * 200 ≤ 140737488355328 ∧ 0 + 1 ≤ (D.l [[D.i (ge.el ((outD ge (ge.el ed.toNat (0 + 0)).toI ge.len).el (↑i : Int).toNat 0).toI.toNat 0).toI, D.i (ge.el ((outD ge (ge.el ed.toNat (0 + 0)).toI ge.len).el (↑i : Int).toNat 0).toI.toNat (0 + 1)).toI, D.i (ge.el ((outD ge (ge.el ed.toNat (0 + 0)).toI ge.len).el (↑i : Int).toNat 0).toI.toNat (0 + 1 + 1)).toI, D.i (ge.el ((outD ge (ge.el ed.toNat (0 + 0)).toI ge.len).el (↑i : Int).toNat 0).toI.toNat (0 + 1 + 1 + 1)).toI, D.i (ge.el ((outD ge (ge.el ed.toNat (0 + 0)).toI ge.len).el (↑i : Int).toNat 0).toI.toNat (0 + 1 + 1 + 1 + 1)).toI, D.i (ge.el ((outD ge (ge.el ed.toNat (0 + 0)).toI ge.len).el (↑i : Int).toNat 0).toI.toNat (0 + 1 + 1 + 1 + 1 + 1)).toI, D.i (ge.el ((outD ge (ge.el ed.toNat (0 + 0)).toI ge.len).el (↑i : Int).toNat 0).toI.toNat (0 + 1 + 1 + 1 + 1 + 1 + 1)).toI, D.i (ge.el ((outD ge (ge.el ed.toNat (0 + 0)).toI ge.len).el (↑i : Int).toNat 0).toI.toNat (0 + 1 + 1 + 1 + 1 + 1 + 1 + 1)).toI, D.i (ge.el ((outD ge (ge.el ed.toNat (0 + 0)).toI ge.len).el (↑i : Int).toNat 0).toI.toNat (0 + 1 + 1 + 1 + 1 + 1 + 1 + 1 + 1)).toI, ge.el ((outD ge (ge.el ed.toNat (0 + 0)).toI ge.len).el (↑i : Int).toNat 0).toI.toNat (0 + 1 + 1 + 1 + 1 + 1 + 1 + 1 + 1 + 1), D.i (ge.el ((outD ge (ge.el ed.toNat (0 + 0)).toI ge.len).el (↑i : Int).toNat 0).toI.toNat (0 + 1 + 1 + 1 + 1 + 1 + 1 + 1 + 1 + 1 + 1)).toI, D.i (ge.el ((outD ge (ge.el ed.toNat (0 + 0)).toI ge.len).el (↑i : Int).toNat 0).toI.toNat (0 + 1 + 1 + 1 + 1 + 1 + 1 + 1 + 1 + 1 + 1 + 1)).toI, D.i (ge.el ((outD ge (ge.el ed.toNat (0 + 0)).toI ge.len).el (↑i : Int).toNat 0).toI.toNat (0 + 1 + 1 + 1 + 1 + 1 + 1 + 1 + 1 + 1 + 1 + 1 + 1)).toI, D.i (ge.el ((outD ge (ge.el ed.toNat (0 + 0)).toI ge.len).el (↑i : Int).toNat 0).toI.toNat (0 + 1 + 1 + 1 + 1 + 1 + 1 + 1 + 1 + 1 + 1 + 1 + 1 + 1)).toI, ge.el ((outD ge (ge.el ed.toNat (0 + 0)).toI ge.len).el (↑i : Int).toNat 0).toI.toNat (0 + 1 + 1 + 1 + 1 + 1 + 1 + 1 + 1 + 1 + 1 + 1 + 1 + 1 + 1), D.i (ge.el ((outD ge (ge.el ed.toNat (0 + 0)).toI ge.len).el (↑i : Int).toNat 0).toI.toNat (0 + 1 + 1 + 1 + 1 + 1 + 1 + 1 + 1 + 1 + 1 + 1 + 1 + 1 + 1 + 1)).toI, D.i (ge.el ((outD ge (ge.el ed.toNat (0 + 0)).toI ge.len).el (↑i : Int).toNat 0).toI.toNat (0 + 1 + 1 + 1 + 1 + 1 + 1 + 1 + 1 + 1 + 1 + 1 + 1 + 1 + 1 + 1 + 1)).toI, D.i (ge.el ((outD ge (ge.el ed.toNat (0 + 0)).toI ge.len).el (↑i : Int).toNat 0).toI.toNat (0 + 1 + 1 + 1 + 1 + 1 + 1 + 1 + 1 + 1 + 1 + 1 + 1 + 1 + 1 + 1 + 1 + 1)).toI, ge.el ((outD ge (ge.el ed.toNat (0 + 0)).toI ge.len).el (↑i : Int).toNat 0).toI.toNat (0 + 1 + 1 + 1 + 1 + 1 + 1 + 1 + 1 + 1 + 1 + 1 + 1 + 1 + 1 + 1 + 1 + 1 + 1)]]).len ∧ ∃ (j : Nat), j.le (outD ge (ge.el ed.toNat 0).toI ge.len).len ∧ (outD ge (ge.el ed.toNat 0).toI ge.len).len + 1 - j < (outD ge (ge.el ed.toNat 0).toI ge.len).len + 1 - i ∧ IntKind.i64.wrap ((↑i : Int) + (1 : Int)) = (↑j : Int) ∧ i + ((D.l [[D.i (ge.el ((outD ge (ge.el ed.toNat (0 + 0)).toI ge.len).el (↑i : Int).toNat 0).toI.toNat 0).toI, D.i (ge.el ((outD ge (ge.el ed.toNat (0 + 0)).toI ge.len).el (↑i : Int).toNat 0).toI.toNat (0 + 1)).toI, D.i (ge.el ((outD ge (ge.el ed.toNat (0 + 0)).toI ge.len).el (↑i : Int).toNat 0).toI.toNat (0 + 1 + 1)).toI, D.i (ge.el ((outD ge (ge.el ed.toNat (0 + 0)).toI ge.len).el (↑i : Int).toNat 0).toI.toNat (0 + 1 + 1 + 1)).toI, D.i (ge.el ((outD ge (ge.el ed.toNat (0 + 0)).toI ge.len).el (↑i : Int).toNat 0).toI.toNat (0 + 1 + 1 + 1 + 1)).toI, D.i (ge.el ((outD ge (ge.el ed.toNat (0 + 0)).toI ge.len).el (↑i : Int).toNat 0).toI.toNat (0 + 1 + 1 + 1 + 1 + 1)).toI, D.i (ge.el ((outD ge (ge.el ed.toNat (0 + 0)).toI ge.len).el (↑i : Int).toNat 0).toI.toNat (0 + 1 + 1 + 1 + 1 + 1 + 1)).toI, D.i (ge.el ((outD ge (ge.el ed.toNat (0 + 0)).toI ge.len).el (↑i : Int).toNat 0).toI.toNat (0 + 1 + 1 + 1 + 1 + 1 + 1 + 1)).toI, D.i (ge.el ((outD ge (ge.el ed.toNat (0 + 0)).toI ge.len).el (↑i : Int).toNat 0).toI.toNat (0 + 1 + 1 + 1 + 1 + 1 + 1 + 1 + 1)).toI, ge.el ((outD ge (ge.el ed.toNat (0 + 0)).toI ge.len).el (↑i : Int).toNat 0).toI.toNat (0 + 1 + 1 + 1 + 1 + 1 + 1 + 1 + 1 + 1), D.i (ge.el ((outD ge (ge.el ed.toNat (0 + 0)).toI ge.len).el (↑i : Int).toNat 0).toI.toNat (0 + 1 + 1 + 1 + 1 + 1 + 1 + 1 + 1 + 1 + 1)).toI, D.i (ge.el ((outD ge (ge.el ed.toNat (0 + 0)).toI ge.len).el (↑i : Int).toNat 0).toI.toNat (0 + 1 + 1 + 1 + 1 + 1 + 1 + 1 + 1 + 1 + 1 + 1)).toI, D.i (ge.el ((outD ge (ge.el ed.toNat (0 + 0)).toI ge.len).el (↑i : Int).toNat 0).toI.toNat (0 + 1 + 1 + 1 + 1 + 1 + 1 + 1 + 1 + 1 + 1 + 1 + 1)).toI, D.i (ge.el ((outD ge (ge.el ed.toNat (0 + 0)).toI ge.len).el (↑i : Int).toNat 0).toI.toNat (0 + 1 + 1 + 1 + 1 + 1 + 1 + 1 + 1 + 1 + 1 + 1 + 1 + 1)).toI, ge.el ((outD ge (ge.el ed.toNat (0 + 0)).toI ge.len).el (↑i : Int).toNat 0).toI.toNat (0 + 1 + 1 + 1 + 1 + 1 + 1 + 1 + 1 + 1 + 1 + 1 + 1 + 1 + 1), D.i (ge.el ((outD ge (ge.el ed.toNat (0 + 0)).toI ge.len).el (↑i : Int).toNat 0).toI.toNat (0 + 1 + 1 + 1 + 1 + 1 + 1 + 1 + 1 + 1 + 1 + 1 + 1 + 1 + 1 + 1)).toI, D.i (ge.el ((outD ge (ge.el ed.toNat (0 + 0)).toI ge.len).el (↑i : Int).toNat 0).toI.toNat (0 + 1 + 1 + 1 + 1 + 1 + 1 + 1 + 1 + 1 + 1 + 1 + 1 + 1 + 1 + 1 + 1)).toI, D.i (ge.el ((outD ge (ge.el ed.toNat (0 + 0)).toI ge.len).el (↑i : Int).toNat 0).toI.toNat (0 + 1 + 1 + 1 + 1 + 1 + 1 + 1 + 1 + 1 + 1 + 1 + 1 + 1 + 1 + 1 + 1 + 1)).toI, ge.el ((outD ge (ge.el ed.toNat (0 + 0)).toI ge.len).el (↑i : Int).toNat 0).toI.toNat (0 + 1 + 1 + 1 + 1 + 1 + 1 + 1 + 1 + 1 + 1 + 1 + 1 + 1 + 1 + 1 + 1 + 1 + 1)]]).sub 0 (0 + 1)).len = j ∧ List.map (fun (j : Nat) => [D.i (↑j : Int)]) (outL ge (ge.el ed.toNat (0 + 0)).toI ge.len) = List.map (fun (j : Nat) => [D.i (↑j : Int)]) (outL ge (ge.el ed.toNat (0 + 0)).toI ge.len) ∧ (↑(outD ge (ge.el ed.toNat (0 + 0)).toI ge.len).len : Int) = (↑(outD ge (ge.el ed.toNat (0 + 0)).toI ge.len).len : Int) ∧ List.map (fun (j : Nat) => cEd ge ((outD ge (ge.el ed.toNat 0).toI ge.len).el j 0).toI.toNat) (List.range i) ++ List.drop 0 (List.take (0 + 1) [[D.i (ge.el ((outD ge (ge.el ed.toNat (0 + 0)).toI ge.len).el (↑i : Int).toNat 0).toI.toNat 0).toI, D.i (ge.el ((outD ge (ge.el ed.toNat (0 + 0)).toI ge.len).el (↑i : Int).toNat 0).toI.toNat (0 + 1)).toI, D.i (ge.el ((outD ge (ge.el ed.toNat (0 + 0)).toI ge.len).el (↑i : Int).toNat 0).toI.toNat (0 + 1 + 1)).toI, D.i (ge.el ((outD ge (ge.el ed.toNat (0 + 0)).toI ge.len).el (↑i : Int).toNat 0).toI.toNat (0 + 1 + 1 + 1)).toI, D.i (ge.el ((outD ge (ge.el ed.toNat (0 + 0)).toI ge.len).el (↑i : Int).toNat 0).toI.toNat (0 + 1 + 1 + 1 + 1)).toI, D.i (ge.el ((outD ge (ge.el ed.toNat (0 + 0)).toI ge.len).el (↑i : Int).toNat 0).toI.toNat (0 + 1 + 1 + 1 + 1 + 1)).toI, D.i (ge.el ((outD ge (ge.el ed.toNat (0 + 0)).toI ge.len).el (↑i : Int).toNat 0).toI.toNat (0 + 1 + 1 + 1 + 1 + 1 + 1)).toI, D.i (ge.el ((outD ge (ge.el ed.toNat (0 + 0)).toI ge.len).el (↑i : Int).toNat 0).toI.toNat (0 + 1 + 1 + 1 + 1 + 1 + 1 + 1)).toI, D.i (ge.el ((outD ge (ge.el ed.toNat (0 + 0)).toI ge.len).el (↑i : Int).toNat 0).toI.toNat (0 + 1 + 1 + 1 + 1 + 1 + 1 + 1 + 1)).toI, ge.el ((outD ge (ge.el ed.toNat (0 + 0)).toI ge.len).el (↑i : Int).toNat 0).toI.toNat (0 + 1 + 1 + 1 + 1 + 1 + 1 + 1 + 1 + 1), D.i (ge.el ((outD ge (ge.el ed.toNat (0 + 0)).toI ge.len).el (↑i : Int).toNat 0).toI.toNat (0 + 1 + 1 + 1 + 1 + 1 + 1 + 1 + 1 + 1 + 1)).toI, D.i (ge.el ((outD ge (ge.el ed.toNat (0 + 0)).toI ge.len).el (↑i : Int).toNat 0).toI.toNat (0 + 1 + 1 + 1 + 1 + 1 + 1 + 1 + 1 + 1 + 1 + 1)).toI, D.i (ge.el ((outD ge (ge.el ed.toNat (0 + 0)).toI ge.len).el (↑i : Int).toNat 0).toI.toNat (0 + 1 + 1 + 1 + 1 + 1 + 1 + 1 + 1 + 1 + 1 + 1 + 1)).toI, D.i (ge.el ((outD ge (ge.el ed.toNat (0 + 0)).toI ge.len).el (↑i : Int).toNat 0).toI.toNat (0 + 1 + 1 + 1 + 1 + 1 + 1 + 1 + 1 + 1 + 1 + 1 + 1 + 1)).toI, ge.el ((outD ge (ge.el ed.toNat (0 + 0)).toI ge.len).el (↑i : Int).toNat 0).toI.toNat (0 + 1 + 1 + 1 + 1 + 1 + 1 + 1 + 1 + 1 + 1 + 1 + 1 + 1 + 1), D.i (ge.el ((outD ge (ge.el ed.toNat (0 + 0)).toI ge.len).el (↑i : Int).toNat 0).toI.toNat (0 + 1 + 1 + 1 + 1 + 1 + 1 + 1 + 1 + 1 + 1 + 1 + 1 + 1 + 1 + 1)).toI, D.i (ge.el ((outD ge (ge.el ed.toNat (0 + 0)).toI ge.len).el (↑i : Int).toNat 0).toI.toNat (0 + 1 + 1 + 1 + 1 + 1 + 1 + 1 + 1 + 1 + 1 + 1 + 1 + 1 + 1 + 1 + 1)).toI, D.i (ge.el ((outD ge (ge.el ed.toNat (0 + 0)).toI ge.len).el (↑i : Int).toNat 0).toI.toNat (0 + 1 + 1 + 1 + 1 + 1 + 1 + 1 + 1 + 1 + 1 + 1 + 1 + 1 + 1 + 1 + 1 + 1)).toI, ge.el ((outD ge (ge.el ed.toNat (0 + 0)).toI ge.len).el (↑i : Int).toNat 0).toI.toNat (0 + 1 + 1 + 1 + 1 + 1 + 1 + 1 + 1 + 1 + 1 + 1 + 1 + 1 + 1 + 1 + 1 + 1 + 1)]]) = List.map (fun (j : Nat) => cEd ge ((outD ge (ge.el ed.toNat 0).toI ge.len).el j 0).toI.toNat) (List.range j) ∧ ch.rows = ch.rows ∧ gr.rows = gr.rows ∧ va.rows = va.rows ∧ el.rows = el.rows ∧ df.rows = df.rows ∧ gn = gn ∧ ge.rows = ge.rows ∧ gh.rows = gh.rows ∧ ed = ed ∧ c = c ∧ I.rows = I.rows ∧ n = n ∧ e = e ∧ (∀ (o : Nat), o < 49 → f o = f o) ∧ cn.rows = cn.rows ∧ ru.rows = ru.rows ∧ sc = sc ∧ sg = sg ∧ s0 = s0 ∧ s1 = s1 ∧ ks.rows = ks.rows) ∧ (decide ((↑i : Int) < (↑(outD ge (ge.el ed.toNat (0 + 0)).toI ge.len).len : Int)) = false → 0 + i ≤ (outE ge (ge.el ed.toNat 0).toI i).len ∧ List.drop (0) (List.take (0 + i) (List.map (fun (j : Nat) => cEd ge ((outD ge (ge.el ed.toNat 0).toI ge.len).el j 0).toI.toNat) (List.range i))) = List.map (fun (j : Nat) => cEd ge ((outD ge (ge.el ed.toNat 0).toI ge.len).el j 0).toI.toNat) (List.range (outD ge (ge.el ed.toNat 0).toI ge.len).len))) (by kernel_rfl) ?_
    intro h0 hc
    simp only [Nat.zero_add, Nat.reduceAdd, Int.toNat_natCast]
    generalize (ge.el ed.toNat 0).toI = nd
    have el2 : ∀ k, (outE ge nd k).len = k := fun k => by show ((List.range k).map _).length = k; rw [List.length_map, List.length_range]
    have hle := outD_len ge nd ge.len
    have hlt := outL_le ge nd ge.len
    refine ⟨h0, hc, ⟨0, Nat.zero_le _, ?_⟩, fun i hi => ⟨fun hl => ?_, fun hl => ?_⟩⟩
    · (repeat' apply And.intro) <;> first | trivial | rfl | (intro _ _; trivial)
    · have hl : (i : Int) < ((outD ge nd ge.len).len : Int) := of_decide_eq_true hl
      have hi' : i < (outL ge nd ge.len).length := by omega
      have hw : IntKind.i64.wrap ((i : Int) + 1) = ((i + 1 : Nat) : Int) := by rw [IntWalk.i64_in _ (by omega)]; omega
      have hat := outL_at hi'
      have hel : ((outD ge nd ge.len).el i 0).toI = ((outL ge nd ge.len)[i] : Nat) := by rw [outD_el hi']; rfl
      have l2 : ∀ x : List D, ((D.l [x]).sub 0 1).len = 1 := fun _ => rfl
      rw [l2, el2]
      refine ⟨⟨by omega, hl⟩, ⟨by rw [hel]; omega, by rw [hel]; omega⟩, rfl, by omega, Nat.le_refl _, i + 1, (by omega : i + 1 ≤ _), by omega, hw, ?_⟩
      have hr : (outE ge nd (i + 1)).rows = (outE ge nd i).rows ++ [cEd ge ((outD ge nd ge.len).el i 0).toI.toNat] := by
        show List.map _ (List.range (i + 1)) = List.map _ (List.range i) ++ _
        rw [List.range_succ, List.map_append]; rfl
      (repeat' apply And.intro) <;> first | trivial | rfl | exact hr.symm | (intro _ _; trivial)
    · have hl : ¬ (i : Int) < ((outD ge nd ge.len).len : Int) := of_decide_eq_false hl
      have hi' : i ≤ (outD ge nd ge.len).len := hi
      have : i = (outD ge nd ge.len).len := by omega
      rw [el2, this]
      refine ⟨Nat.le_refl _, ?_⟩
      show List.drop 0 (List.take (outD ge nd ge.len).len ((List.range (outD ge nd ge.len).len).map _)) = (List.range (outD ge nd ge.len).len).map _
      rw [List.drop_zero, List.take_of_length_le (by rw [List.length_map, List.length_range]; exact Nat.le_refl _)]
  · trivial
noncomputable def isfirstS : FSpec := fun ds _ => match ds with
  | [.d _ch, .d _gr, .d _va, .d _el, .d _df, .i _gn, .d ge, .d _gh, .i ed, .b _c, .d _I, .i _n, .b _e, .f _f, .d _cn, .d _ru, .i _sc, .i _sg, .i _s0, .i _s1, .d _ks] => some { val := .one (.sc (.bool (.sym (((outD ge ((ge.el ed.toNat 0).toI) ge.len).el 0 0).toI == ed)))), vc := [0 ≤ ed ∧ ed < ge.len, ge.len ≤ 1000000] }
  | _ => none
noncomputable def isfirstC : Con := con [.ptr [.c (.rows 73), .c (.rows 35), .c (.rows 3), .c (.rows 75), .c (.rows 4), .c (.int .i64), .c (.rows 31), .c (.rows 3), .c (.int .i64), .c .bool, .c (.rows 53), .c (.int .i64), .c .bool, .ints .i64 49, .c (.rows 53), .c (.rows 93), .c (.int .i64), .c (.int .i64), .c (.int .i64), .c (.int .i64), .c (.rows 3)]] isfirstS
theorem isfirst_ok : ConOK Tryz.prog 82 isfirstC := by
  refine fn_ob tt_ok mixed Tryz.func82 rfl (fun _ _ => by kernel_rfl) (A := fun ds => ⟨fun _ => Cons.of [(113, foutC)], fun _ => none, fun _ => none⟩) (fun _ _ => (cons_cons fout_ok cons_nil)) (by kernel_rfl) ?_
  intro ds fr
  unfold isfirstS
  split
  · rename_i ch gr va el df gn ge gh ed c I n e f cn ru sc sg s0 s1 ks
    refine kmp (q := (0 : Int) ≤ ed ∧ ed < (↑ge.len : Int) → ge.len ≤ 1000000 → ((0 : Int) ≤ ed ∧ ed < (↑ge.len : Int)) ∧ ge.len ≤ 1000000 ∧ 0 < (outD ge (ge.el ed.toNat (0 + 0)).toI ge.len).len ∧ (((outD ge (ge.el ed.toNat (0 + 0)).toI ge.len).el (0) 0).toI == ed) = (((outD ge (ge.el ed.toNat 0).toI ge.len).el 0 0).toI == ed)) (by kernel_rfl) ?_
    intro h0 hc
    refine ⟨h0, hc, ?_, rfl⟩
    rw [Nat.add_zero, outD_len]
    exact outL_pos (k := ed.toNat) (by omega) (by simp)
  · trivial
end Go.Proofs.YtlgmofjjjhbgkaaGreat.Sx.Z
namespace Go.Proofs.YtlgmofjjjhbgkaaGreat.Sx.Z
open Go.RowKit
def tagB (t : Int) (l : List D) : Bool := (l.getD 5 (.i 0)).toI == t
def strB (o : D) (l : List D) : Bool := !anyF (fun j => tagB (l.getD 0 (.i 0)).toI (cEd o j)) o.len
noncomputable def stra2S : FSpec := fun ds _ => match ds with
  | [.i _x0, .i _x1, .i _x2, .i _x3, .i _x4, .i x5, .i _qk, .i _qm, .i _qv, .d _qd, .i _op, .i _k, .i _m, .i _v, .d _d, .i _k2, .i _m2, .i _v2, .d _d2, .i a] => some { val := .one (.sc (.bool (.sym (x5 == a)))), vc := [] }
  | _ => none
noncomputable def stra2C : Con := con [edgeA, .sc (.pt (.int .i64))] stra2S
theorem stra2_ok : ConOK Tryz.prog 119 stra2C := by
  refine fn_ob tt_ok mixed Tryz.func119 rfl (fun _ _ => by kernel_rfl) (A := fun ds => ⟨fun _ => Cons.of [], fun _ => none, fun _ => none⟩) (fun _ _ => cons_nil) (by kernel_rfl) ?_
  intro ds fr
  unfold stra2S
  split
  · rename_i x0 x1 x2 x3 x4 x5 qk qm qv qd op k m v d k2 m2 v2 d2 a
    refine kmp (q := (x5 == a) = (x5 == a)) (by kernel_rfl) ?_
    rfl
  · trivial
def stra2F : FC := ⟨.int .i64, true, 31, fun d => match d with | .i a => some (tagB a, okT) | _ => none⟩
noncomputable def stra2K : Con := conF stra2F stra2C
theorem stra2K_ok : ConOK Tryz.prog 119 stra2K :=
  conF_ok stra2_ok (fc_ok (ks := eks 31) rfl rfl (fun h => by cases h) stra2_ok rfl fun d q h l _ => by
    cases d with
    | i a =>
      obtain rfl := Option.some.inj h
      exact ⟨_, rfl, trivial⟩
    | _ => cases h)
noncomputable def stra1S : FSpec := fun ds _ => match ds with
  | [.i t, .d o] => some { val := .one (.sc (.bool (.sym (!anyF (fun j => tagB t (cEd o j)) o.len)))), vc := [o.len ≤ 1000000] }
  | _ => none
noncomputable def stra1C : Con := con [iA, .sc (.pt (.rows 31))] stra1S
theorem stra1_ok : ConOK Tryz.prog 118 stra1C := by
  refine fn_ob tt_ok mixed Tryz.func118 rfl (fun _ _ => by kernel_rfl) (A := fun ds => ⟨fun _ => Cons.of [(119, stra2K), (41, cfeC)], fun _ => none, fun _ => none⟩) (fun _ _ => (cons_cons stra2K_ok (cons_cons cfe_ok cons_nil))) (by kernel_rfl) ?_
  intro ds fr
  unfold stra1S
  split
  · rename_i t o
    refine kmp (q := o.len ≤ 1000000 → o.len ≤ 1000000 ∧ (∀ (i : Nat), i < o.len → okT (cEd o i)) ∧ (!anyF (fun (i : Nat) => tagB t (cEd o i)) o.len) = !anyF (fun (j : Nat) => tagB t (cEd o j)) o.len) (by kernel_rfl) ?_
    intro h
    exact ⟨h, fun _ _ => trivial, rfl⟩
  · trivial
def stra1F : FC := ⟨.rows 31, false, 3, fun d => match d with | .d o => some (strB o, fun _ => o.len ≤ 1000000) | _ => none⟩
noncomputable def stra1K : Con := conF stra1F stra1C
theorem stra1K_ok : ConOK Tryz.prog 118 stra1K :=
  conF_ok stra1_ok (fc_ok (ks := eks 3) rfl rfl (fun _ => rfl) stra1_ok rfl fun d q h l hl => by
    cases d with
    | d o =>
      obtain rfl := Option.some.inj h
      exact ⟨_, rfl, hl, trivial⟩
    | _ => cases h)
noncomputable def strangeS : FSpec := fun ds _ => match ds with
  | [.d _ch, .d _gr, .d _va, .d _el, .d _df, .i _gn, .d ge, .d _gh, .i ed, .b _c, .d _I, .i _n, .b _e, .f _f, .d _cn, .d _ru, .i _sc, .i _sg, .i _s0, .i _s1, .d _ks, .d tg] => some { val := .one (.sc (.bool (.sym (anyF (fun i => strB (outA ge ((ge.el ed.toNat 0).toI)) (cIn tg i)) tg.len)))), vc := [0 ≤ ed ∧ ed < ge.len, ge.len ≤ 1000000, tg.len ≤ 1000000] }
  | _ => none
noncomputable def strangeC : Con := con [.ptr [.c (.rows 73), .c (.rows 35), .c (.rows 3), .c (.rows 75), .c (.rows 4), .c (.int .i64), .c (.rows 31), .c (.rows 3), .c (.int .i64), .c .bool, .c (.rows 53), .c (.int .i64), .c .bool, .ints .i64 49, .c (.rows 53), .c (.rows 93), .c (.int .i64), .c (.int .i64), .c (.int .i64), .c (.int .i64), .c (.rows 3)], .sc (.rows 3)] strangeS
theorem strange_ok : ConOK Tryz.prog 89 strangeC := by
  refine fn_ob tt_ok mixed Tryz.func89 rfl (fun _ _ => by kernel_rfl) (A := fun ds => ⟨fun _ => Cons.of [(116, oedgesC), (118, stra1K), (117, cfnC)], fun _ => none, fun _ => none⟩) (fun _ _ => (cons_cons oedges_ok (cons_cons stra1K_ok (cons_cons cfn_ok cons_nil)))) (by kernel_rfl) ?_
  intro ds fr
  unfold strangeS
  split
  · rename_i ch gr va el df gn ge gh ed c I n e f cn ru sc sg s0 s1 ks tg
    refine kmp (q := (0 : Int) ≤ ed ∧ ed < (↑ge.len : Int) → ge.len ≤ 1000000 → tg.len ≤ 1000000 → ((0 : Int) ≤ ed ∧ ed < (↑ge.len : Int)) ∧ ge.len ≤ 1000000 ∧ tg.len ≤ 1000000 ∧ (∀ (i : Nat), i < tg.len → (outA ge (ge.el ed.toNat 0).toI).len ≤ 1000000) ∧ anyF (fun (i : Nat) => strB (outA ge (ge.el ed.toNat 0).toI) (cIn tg i)) tg.len = anyF (fun (i : Nat) => strB (outA ge (ge.el ed.toNat 0).toI) (cIn tg i)) tg.len) (by kernel_rfl) ?_
    intro h0 hc ht
    refine ⟨h0, hc, ht, fun _ _ => ?_, rfl⟩
    have h1 := outD_len ge (ge.el ed.toNat 0).toI ge.len
    have h2 := outL_le ge (ge.el ed.toNat 0).toI ge.len
    show ((List.range (outD ge (ge.el ed.toNat 0).toI ge.len).len).map _).length ≤ 1000000
    rw [List.length_map, List.length_range]
    omega
  · trivial
end Go.Proofs.YtlgmofjjjhbgkaaGreat.Sx.Z
namespace Go.Proofs.YtlgmofjjjhbgkaaGreat.Sx.Z
open Go.RowKit
def ofI (a b : Int) : Int × Int := (ofLo a b, ofHi a b)
def jnI (a b : Int × Int) : Int × Int := if a.2 < a.1 then ofI b.1 b.2 else if b.2 < b.1 then ofI a.1 a.2 else ofI (min a.1 b.1) (max a.2 b.2)
def wdI (a b : Int × Int) : Int × Int := if a.2 < a.1 ∨ b.2 < b.1 then jnI a b else (if b.1 < a.1 then -2147483648 else (jnI a b).1, if a.2 < b.2 then 2147483647 else (jnI a b).2)
def nrm (a : Int × Int) : Int × Int := if a.1 > a.2 then (1, 0) else a
def rjnI (a b : Int × Int) : Int × Int := if a.1 > a.2 then nrm b else if b.1 > b.2 then a else (min a.1 b.1, max a.2 b.2)
def rwdI (a b : Int × Int) : Int × Int := if a.1 > a.2 then nrm b else if b.1 > b.2 then a else (if b.1 < a.1 then -2147483648 else a.1, if a.2 < b.2 then 2147483647 else a.2)
/-- As every call tells it. -/
def Nm (p : Int × Int) : Prop := p = (1, 0) ∨ (-2147483648 ≤ p.1 ∧ p.1 ≤ p.2 ∧ p.2 ≤ 2147483647)
theorem ofI_cases (a b : Int) : (min b 2147483647 < max a (-2147483648) ∧ ofI a b = (1, 0)) ∨ (max a (-2147483648) ≤ min b 2147483647 ∧ ofI a b = (max a (-2147483648), min b 2147483647)) := by
  unfold ofI ofLo ofHi
  by_cases h : min b 2147483647 < max a (-2147483648)
  · left; simp [h]
  · right; simp [h]; omega
theorem nm_of (a b : Int) : Nm (ofI a b) := by
  rcases ofI_cases a b with ⟨_, e⟩ | ⟨h, e⟩
  · exact .inl e
  · right; rw [e]; dsimp only; omega
theorem nm_id {p : Int × Int} (h : Nm p) : ofI p.1 p.2 = p := by
  rcases h with rfl | h
  · rfl
  · obtain ⟨a, b⟩ := p
    dsimp only at h
    rcases ofI_cases a b with ⟨h1, e⟩ | ⟨h1, e⟩
    · exfalso; omega
    · rw [e]; ext <;> dsimp only <;> omega
def ijoinS : FSpec := fun ds _ => match ds with
  | [.i a, .i b, .i c, .i d] => some { val := .one (.agg [.c (.int .i64 (.sym ((jnI (a, b) (c, d)).1))), .c (.int .i64 (.sym ((jnI (a, b) (c, d)).2)))]), vc := [] }
  | _ => none
def ijoinC : Con := con [itvA, itvA] ijoinS
theorem ijoin_ok : ConOK Tryz.prog 51 ijoinC := by
  refine fn_ob tt_ok mixed Tryz.func51 rfl (fun _ _ => by kernel_rfl) (A := fun ds => ⟨fun _ => Cons.of [(48, emptyC), (21, iofC)], fun _ => none, fun _ => none⟩) (fun _ _ => (cons_cons empty_ok (cons_cons iof_ok cons_nil))) (by kernel_rfl) ?_
  intro ds fr
  unfold ijoinS
  split
  · rename_i a b c d
    refine kmp (q := (decide (b < a) = true → ofLo c d = (jnI (a, b) (c, d)).fst ∧ ofHi c d = (jnI (a, b) (c, d)).snd) ∧ (decide (b < a) = false → (decide (d < c) = true → ofLo a b = (jnI (a, b) (c, d)).fst ∧ ofHi a b = (jnI (a, b) (c, d)).snd) ∧ (decide (d < c) = false → ofLo (if c < a then c else a) (if d > b then d else b) = (jnI (a, b) (c, d)).fst ∧ ofHi (if c < a then c else a) (if d > b then d else b) = (jnI (a, b) (c, d)).snd))) (by kernel_rfl) ?_
    (repeat' first | apply And.intro | intro _) <;> grind [nrm, jnI, wdI, rjnI, rwdI, ofI]
  · trivial
end Go.Proofs.YtlgmofjjjhbgkaaGreat.Sx.Z
namespace Go.Proofs.YtlgmofjjjhbgkaaGreat.Sx.Z
open Go.RowKit
def elA : AP := .agg [.c (.int .i64), .c (.int .i64), .c (.rows 53)]
def chA : AP := .agg [.c (.int .i64), .c (.int .i64), .c (.int .i64), .c (.int .i64), .c (.int .i64), .c (.rows 33)]
/-- A row of Itvs. -/
def pr (d : D) (j : Nat) : Int × Int := ((d.el j 0).toI, (d.el j 1).toI)
def cl (p : Int × Int) : List D := [.i p.1, .i p.2]
def prD (n : Nat) (g : Nat → Int × Int) : D := .l ((List.range n).map fun j => cl (g j))
theorem prD_len (n : Nat) (g : Nat → Int × Int) : (prD n g).len = n := by show ((List.range n).map _).length = n; simp
theorem prD_el {n j : Nat} (h : j < n) (g : Nat → Int × Int) : pr (prD n g) j = g j := by
  have e : (prD n g).rows.getD j [] = cl (g j) := by
    show ((List.range n).map fun j => cl (g j)).getD j [] = _
    rw [List.getD_eq_getElem?_getD, List.getElem?_map, List.getElem?_range h]; rfl
  unfold pr D.el
  rw [e]; rfl
def setR (d : D) (k : Nat) (p : Int × Int) : D := .l (d.rows.set k (cl p))
noncomputable def qcopiedS : List Dat → Option Eff := fun ds => match ds with
  | [.i l, .i h, .d d] => some { val := .one (.agg [.c (.int .i64 (.sym (l))), .c (.int .i64 (.sym (h))), .c (.osl 53 0 (.lit 0) (.sym d.len))]), vc := [d.len ≤ 8796093022208], nw := [(0, .orow 53 d)] }
  | _ => none
noncomputable def qcopiedC : Con := conS [elA] qcopiedS
theorem qcopied_ok : ConOK Tryz.prog 47 qcopiedC := by
  refine fn_obS tt_ok mixed Tryz.func47 rfl (fun _ _ => by kernel_rfl) (A := fun ds => ⟨fun _ => Cons.of [], fun _ => none, fun _ => none⟩) (fun _ _ => cons_nil) (by kernel_rfl) ?_
  intro ds
  unfold qcopiedS
  split
  · rename_i l h d
    refine kmp (q := d.len ≤ 8796093022208 → (0 + d.len) * 16 ≤ 140737488355328 ∧ l = l ∧ h = h ∧ 0 + d.len = d.len ∧ [] ++ d.rows = d.rows) (by kernel_rfl) ?_
    intro hd
    exact ⟨by omega, rfl, rfl, by omega, rfl⟩
  · trivial
noncomputable def qplaceS : FSpec := fun ds _ => match ds with
  | [.i a, .i b] => some { val := .one (.sc (.bool (.sym (decide (0 ≤ a) && decide (a < b))))), vc := [] }
  | _ => none
noncomputable def qplaceC : Con := con [iA, iA] qplaceS
theorem qplace_ok : ConOK Tryz.prog 49 qplaceC := by
  refine fn_ob tt_ok mixed Tryz.func49 rfl (fun _ _ => by kernel_rfl) (A := fun ds => ⟨fun _ => Cons.of [], fun _ => none, fun _ => none⟩) (fun _ _ => cons_nil) (by kernel_rfl) ?_
  intro ds fr
  unfold qplaceS
  split
  · rename_i a b
    refine kmp (q := (decide (a ≥ (0 : Int)) && decide (a < b)) = (decide ((0 : Int) ≤ a) && decide (a < b))) (by kernel_rfl) ?_
    rfl
  · trivial
noncomputable def qmoreS : FSpec := fun ds _ => match ds with
  | [.i a, .i b] => some { val := .one (.sc (.int .i64 (.sym (if a < b then IntKind.i64.wrap (a + 1) else b)))), vc := [] }
  | _ => none
noncomputable def qmoreC : Con := con [iA, iA] qmoreS
theorem qmore_ok : ConOK Tryz.prog 50 qmoreC := by
  refine fn_ob tt_ok mixed Tryz.func50 rfl (fun _ _ => by kernel_rfl) (A := fun ds => ⟨fun _ => Cons.of [], fun _ => none, fun _ => none⟩) (fun _ _ => cons_nil) (by kernel_rfl) ?_
  intro ds fr
  unfold qmoreS
  split
  · rename_i a b
    refine kmp (q := (decide (a < b) = true → IntKind.i64.wrap (a + (1 : Int)) = if a < b then IntKind.i64.wrap (a + (1 : Int)) else b) ∧ (decide (a < b) = false → b = if a < b then IntKind.i64.wrap (a + (1 : Int)) else b)) (by kernel_rfl) ?_
    exact ⟨fun h => (if_pos (by simpa using h)).symm, fun h => (if_neg (by simpa using h)).symm⟩
  · trivial
def sndB (tags : Int) (d : D) (tag : Int) (i : Int × Int) : Bool := !(decide (i.2 < i.1)) && (decide (0 ≤ tag) && decide (tag < tags)) && (decide (0 ≤ tag) && decide (tag < d.len))
def sndL (size tags : Int) (l : Int × Int) (d : D) (tag : Int) (i : Int × Int) : Int × Int := if sndB tags d tag i = true then ofI 0 (if l.2 < size then IntKind.i64.wrap (l.2 + 1) else size) else l
def sndD (tags : Int) (d : D) (tag : Int) (i : Int × Int) : D := if sndB tags d tag i = true then setR d tag.toNat (jnI (pr d tag.toNat) i) else d
noncomputable def qsendS : FSpec := fun ds _ => match ds with
  | [.i _kd, .i size, .i _frm, .i _dst, .i tags, .d _rl, .i l, .i h, .d d, .i tag, .i i0, .i i1] => some { val := .one (.agg [.c (.int .i64 (.sym ((sndL size tags (l, h) d tag (i0, i1)).1))), .c (.int .i64 (.sym ((sndL size tags (l, h) d tag (i0, i1)).2))), .c (.rows 53 (sndD tags d tag (i0, i1)))]), vc := [d.len ≤ 8796093022208] }
  | _ => none
noncomputable def qsendC : Con := con [chA, elA, iA, itvA] qsendS
theorem qsend_ok : ConOK Tryz.prog 20 qsendC := by
  refine fn_ob tt_ok mixed Tryz.func20 rfl (fun _ _ => by kernel_rfl) (A := fun ds => ⟨fun _ => Cons.of [(47, qcopiedC), (48, emptyC), (49, qplaceC), (50, qmoreC), (21, iofC), (51, ijoinC)], fun _ => none, fun _ => none⟩) (fun _ _ => (cons_cons qcopied_ok (cons_cons empty_ok (cons_cons qplace_ok (cons_cons qmore_ok (cons_cons iof_ok (cons_cons ijoin_ok cons_nil))))))) (by kernel_rfl) ?_
  intro ds fr
  unfold qsendS
  split
  · rename_i kd size frm dst tags rl l h d tag i0 i1
    refine kmp (q := d.len ≤ 8796093022208 → d.len ≤ 8796093022208 ∧ ((decide (i1 < i0) || !(decide ((0 : Int) ≤ tag) && decide (tag < tags)) || !(decide ((0 : Int) ≤ tag) && decide (tag < (↑d.len : Int)))) = true → nat_lit 0 + d.len ≤ d.len ∧ l = (sndL size tags (l, h) d tag (i0, i1)).fst ∧ h = (sndL size tags (l, h) d tag (i0, i1)).snd ∧ List.drop (nat_lit 0) (List.take (nat_lit 0 + d.len) d.rows) = (sndD tags d tag (i0, i1)).rows) ∧ ((decide (i1 < i0) || !(decide ((0 : Int) ≤ tag) && decide (tag < tags)) || !(decide ((0 : Int) ≤ tag) && decide (tag < (↑d.len : Int)))) = false → ((0 : Int) ≤ tag ∧ tag < (↑d.len : Int)) ∧ ((0 : Int) ≤ tag ∧ tag < (↑d.len : Int)) ∧ tag.toNat < d.len ∧ nat_lit 0 + d.len ≤ (d.setc [K.int IntKind.i64, K.int IntKind.i64].length tag.toNat 0 [D.i (jnI ((d.el tag.toNat 0).toI, (d.el tag.toNat (0 + 1)).toI) (i0, i1)).fst, D.i (jnI ((d.el tag.toNat 0).toI, (d.el tag.toNat (0 + 1)).toI) (i0, i1)).snd]).len ∧ ofLo (0 : Int) (if h < size then IntKind.i64.wrap (h + (1 : Int)) else size) = (sndL size tags (l, h) d tag (i0, i1)).fst ∧ ofHi (0 : Int) (if h < size then IntKind.i64.wrap (h + (1 : Int)) else size) = (sndL size tags (l, h) d tag (i0, i1)).snd ∧ List.drop (nat_lit 0) (List.take (nat_lit 0 + d.len) (d.rows.set tag.toNat [D.i (jnI ((d.el tag.toNat 0).toI, (d.el tag.toNat (0 + 1)).toI) (i0, i1)).fst, D.i (jnI ((d.el tag.toNat 0).toI, (d.el tag.toNat (0 + 1)).toI) (i0, i1)).snd])) = (sndD tags d tag (i0, i1)).rows)) (by kernel_rfl) ?_
    intro hd
    have full : ∀ r : List (List D), r.length = d.len → (r.take (0 + d.len)).drop 0 = r := fun r hr => by rw [Nat.zero_add, List.drop_zero, ← hr, List.take_length]
    have e : (decide (i1 < i0) || !(decide (0 ≤ tag) && decide (tag < tags)) || !(decide (0 ≤ tag) && decide (tag < (d.len : Int)))) = !(sndB tags d tag (i0, i1)) := by
      unfold sndB
      cases decide (i1 < i0) <;> cases (decide (0 ≤ tag) && decide (tag < tags)) <;> cases (decide (0 ≤ tag) && decide (tag < (d.len : Int))) <;> rfl
    rw [e]
    refine ⟨hd, fun h => ?_, fun h => ?_⟩
    · have h : ¬ sndB tags d tag (i0, i1) = true := by simpa using h
      unfold sndL sndD
      rw [if_neg h, if_neg h]
      exact ⟨(show 0 + d.len ≤ d.len by simp), rfl, rfl, full _ rfl⟩
    · have h : sndB tags d tag (i0, i1) = true := by simpa using h
      have ht : 0 ≤ tag ∧ tag < d.len := by
        unfold sndB at h
        simp only [Bool.and_eq_true, decide_eq_true_eq] at h
        omega
      unfold sndL sndD
      rw [if_pos h, if_pos h]
      refine ⟨ht, ht, by omega, ?_, rfl, rfl, full _ (by simp; rfl)⟩
      show 0 + d.len ≤ (d.rows.set tag.toNat _).length
      rw [List.length_set]
      show 0 + d.rows.length ≤ d.rows.length
      omega
  · trivial
end Go.Proofs.YtlgmofjjjhbgkaaGreat.Sx.Z
namespace Go.Proofs.YtlgmofjjjhbgkaaGreat
open Go.RowKit

theorem blk_lt {W : World} {b : Nat} {x : Obj} (h : W.heap[b]? = some x) : b < W.heap.size := by
  rcases Nat.lt_or_ge b W.heap.size with h1 | h1
  · exact h1
  · rw [Array.getElem?_eq_none h1] at h; cases h
theorem blkA (W : World) (x : Obj) {b : Nat} (h : W.heap.size = b) : (W.alloc x).heap[b]? = some x := by
  subst h
  exact heap_alloc_new W x
theorem blk_keep {W W1 : World} {b : Nat} {x : Obj} (hb : Below W.heap.size W W1) (h : W.heap[b]? = some x) : W1.heap[b]? = some x := (hb.block b (blk_lt h)).trans h
theorem blkUp {W : World} {b : Nat} {x : Obj} (h : W.heap[b]? = some x) (ob : Obj) : (W.alloc ob).heap[b]? = some x := blk_keep ((Below.refl _ W).alloc (Nat.le_refl _) ob) h
theorem row_of {W : World} {b : Nat} {R : Array Value} {t : TypeId} {fr : Nat × Nat} (h : W.heap[b]? = some (.cells R t fr)) : ∀ o, W.cell? ⟨b, o, none⟩ = R[o]? := fun o => cell_of_row W b o R t fr h
theorem frozen_of {W : World} {b : Nat} {R : Array Value} {t : TypeId} (h : W.heap[b]? = some (.cells R t (0, 0))) (o : Nat) : W.frozen? ⟨b, o, none⟩ = false := by simp [World.frozen?, h]
theorem wp_world {P : Program} {c : Code} {Q : Exit → Act → World → Prop} {a : Act} {w : World} (F : World → Prop) (hF : F w) (h : ∀ W, F W → c.wp P Q a W) : c.wp P Q a w := h w hF

theorem blk_set {W : World} {b g o : Nat} {x : Obj} {v : Value} (h : W.heap[b]? = some x) (hne : b ≠ g) : (W.setCell ⟨g, o, none⟩ v).heap[b]? = some x := by
  rw [Below.heap_setCell _ _ _ _ hne]
  exact h
theorem seta {W : World} {n : Nat} {t : TypeId} {a b v : Value} (h : W.heap[n]? = some (.cells #[a, b] t (0, 0))) : (W.setCell ⟨n, 0, none⟩ v).heap[n]? = some (.cells #[v, b] t (0, 0)) := by simp [World.setCell, Array.getElem?_modify, h]
/-- A pair is stored into a block: the block, all others. -/
theorem put2 {W WF : World} {n : Nat} {t : TypeId} {d0 d1 : Value} (h : W.heap[n]? = some (.cells #[d0, d1] t (0, 0))) (v0 v1 : Value) (hW : WF = (W.setCell ⟨n, 0, none⟩ v0).setCell ⟨n, 1, none⟩ v1) :
    WF.heap[n]? = some (.cells #[v0, v1] t (0, 0)) ∧ (∀ (b : Nat) (x : Obj), b ≠ n → W.heap[b]? = some x → WF.heap[b]? = some x) ∧ (∀ B, B ≤ n → Below B W WF) ∧ WF.heap.size = W.heap.size := by
  subst hW
  refine ⟨by simp [World.setCell, Array.getElem?_modify, h], fun b x hb hx => blk_set (blk_set hx hb) hb, fun B hB => ?_, by simp [World.setCell]⟩
  exact ((Below.refl _ W).setCell (p := ⟨n, 0, none⟩) hB v0).setCell (p := ⟨n, 1, none⟩) hB v1

/-- The empty one is from 1 to 0. -/
def nrm (l h : Int) : Int × Int := if h < l then (1, 0) else (l, h)
/-- The greater one, the lesser one: as the language's words reckon them. -/
def mx (x y : Int) : Int := if x < y then y else x
def mn (x y : Int) : Int := if y < x then y else x
/-- Those from one to another one that a variable may be. -/
def ofP (l h : Int) : Int × Int := nrm (mx l (-2147483648)) (mn h 2147483647)

theorem empty_any (l h : Int) (w : World) :
    Calls Tryz.prog 48 #[.agg #[.int .i64 l, .int .i64 h]] w fun e w' => e = .returned (.bool (decide (h < l))) ∧ Below w.heap.size w w' := by
  go_enter Tryz.func48, Tryz.ntmps48
  go_wp2
  go_ret
  exact ⟨by simp, by go_grown⟩

theorem none_any (w : World) :
    Calls Tryz.prog 37 #[] w fun e w' => e = .returned (.agg #[.int .i64 1, .int .i64 0]) ∧ Below w.heap.size w w' := by
  go_enter Tryz.func37, Tryz.ntmps37
  go_wp2
  exact bodyPost_ret (v := .agg #[.int .i64 1, .int .i64 0]) (by simp [results, Tryz.results37, go_sem]) rfl ⟨rfl, by go_grown⟩

theorem has_any (l h n : Int) (w : World) :
    Calls Tryz.prog 34 #[.agg #[.int .i64 l, .int .i64 h], .int .i64 n] w fun e w' => e = .returned (.bool (decide (l ≤ n ∧ n ≤ h))) ∧ Below w.heap.size w w' := by
  by_cases hc : l ≤ n
  · have hd := decide_eq_true hc
    go_enter Tryz.func34, Tryz.ntmps34
    go_wp2
    go_ret
    exact ⟨by simp [hc], by go_grown⟩
  · have hd := decide_eq_false hc
    go_enter Tryz.func34, Tryz.ntmps34
    go_wp2
    go_ret
    exact ⟨by simp, by go_grown⟩

theorem of_gen (l h L H : Int) (hL : (if l < -2147483648 then -2147483648 else l) = L) (hH : (if 2147483647 < h then 2147483647 else h) = H) (w : World) :
    Calls Tryz.prog 21 #[.int .i64 l, .int .i64 h] w fun e w' => e = .returned (.agg #[.int .i64 (nrm L H).1, .int .i64 (nrm L H).2]) ∧ Below w.heap.size w w' := by
  go_enter Tryz.func21, Tryz.ntmps21
  go_upto_region 2 with fail
  refine wp_world (fun W => W.heap[w.heap.size]? = some (.cells #[.int .i64 0, .int .i64 0] 53 (0, 0)) ∧ W.heap[w.heap.size + 1]? = some (.cells #[.int .i64 L, .int .i64 H] 53 (0, 0)) ∧ Below w.heap.size w W) ⟨blkUp (blkA _ _ rfl) _, blkA _ _ (by simp), ((Below.refl _ _).alloc (Nat.le_refl _) _).alloc (by simp) _⟩ ?_
  clear hL hH
  rintro w1 ⟨k0, k1, hB1⟩
  have z0 := blk_lt k0
  have z1 := blk_lt k1
  have r1 := row_of k1
  go_wp2_with fail
  refine (empty_any _ _ _).mono ?_
  rintro e w2 ⟨rfl, hb2⟩
  replace k0 := blk_keep hb2 k0
  replace k1 := blk_keep hb2 k1
  have hB2 := hB1.trans (hb2.mono hB1.size)
  clear hb2 hB1 r1 z0 z1
  have r0 := row_of k0
  have r1 := row_of k1
  have f0 := frozen_of k0
  have z0 := blk_lt k0
  have z1 := blk_lt k1
  by_cases hc : H < L
  · have hd := decide_eq_true hc
    go_wp2_with fail
    refine (none_any _).mono ?_
    rintro e w3 ⟨rfl, hb3⟩
    replace k0 := blk_keep hb3 k0
    have hB3 := hB2.trans (hb3.mono hB2.size)
    clear hb3 hB2 r0 r1 z0 z1 k1 f0
    have r0 := row_of k0
    have f0 := frozen_of k0
    have z0 := blk_lt k0
    go_wp2_with fail
    generalize hWF : (World.setCell (World.setCell _ _ _) _ _) = WF
    obtain ⟨kF, _, bF, _⟩ := put2 k0 _ _ hWF.symm
    clear hWF
    have rF := row_of kF
    exact bodyPost_ret (v := .agg #[.int .i64 (nrm L H).1, .int .i64 (nrm L H).2]) (by simp [results, Tryz.results21, go_sem, rF, nrm, hc]) rfl ⟨rfl, hB3.trans (bF _ (Nat.le_refl _))⟩
  · have hd := decide_eq_false hc
    have hn : nrm L H = (L, H) := if_neg hc
    go_wp2_with fail
    generalize hWF : (World.setCell (World.setCell _ _ _) _ _) = WF
    obtain ⟨kF, _, bF, _⟩ := put2 k0 _ _ hWF.symm
    clear hWF
    have rF := row_of kF
    exact bodyPost_ret (v := .agg #[.int .i64 L, .int .i64 H]) (by simp [results, Tryz.results21, go_sem, rF]) rfl ⟨by rw [hn], hB2.trans (bF _ (Nat.le_refl _))⟩

theorem of_any (l h : Int) (w : World) :
    Calls Tryz.prog 21 #[.int .i64 l, .int .i64 h] w fun e w' => e = .returned (.agg #[.int .i64 (ofP l h).1, .int .i64 (ofP l h).2]) ∧ Below w.heap.size w w' := of_gen l h _ _ rfl rfl w
theorem const_any (n : Int) (w : World) :
    Calls Tryz.prog 16 #[.int .i64 n] w fun e w' => e = .returned (.agg #[.int .i64 (ofP n n).1, .int .i64 (ofP n n).2]) ∧ Below w.heap.size w w' := by
  go_enter Tryz.func16, Tryz.ntmps16
  go_upto_region 1 with fail
  refine wp_world (fun W => W.heap[w.heap.size]? = some (.cells #[.int .i64 0, .int .i64 0] 53 (0, 0)) ∧ Below w.heap.size w W) ⟨blkA _ _ rfl, (Below.refl _ _).alloc (Nat.le_refl _) _⟩ ?_
  rintro w1 ⟨k0, hB1⟩
  go_wp2_with fail
  refine (of_any _ _ _).mono ?_
  rintro e w2 ⟨rfl, hb2⟩
  replace k0 := blk_keep hb2 k0
  have hB2 := hB1.trans (hb2.mono hB1.size)
  have r0 := row_of k0
  have f0 := frozen_of k0
  have z0 := blk_lt k0
  go_wp2_with fail
  generalize hWF : (World.setCell (World.setCell _ _ _) _ _) = WF
  obtain ⟨kF, _, bF, _⟩ := put2 k0 _ _ hWF.symm
  clear hWF
  have rF := row_of kF
  exact bodyPost_ret (v := .agg #[.int .i64 (ofP n n).1, .int .i64 (ofP n n).2]) (by simp [results, Tryz.results16, go_sem, rF]) rfl ⟨rfl, hB2.trans (bF _ (Nat.le_refl _))⟩
end Go.Proofs.YtlgmofjjjhbgkaaGreat
namespace Go.Proofs.YtlgmofjjjhbgkaaGreat
open Go.RowKit

def joinP (a0 a1 b0 b1 : Int) : Int × Int := if a1 < a0 then ofP b0 b1 else if b1 < b0 then ofP a0 a1 else ofP (mn a0 b0) (mx a1 b1)
def meetP (a0 a1 b0 b1 : Int) : Int × Int := ofP (mx a0 b0) (mn a1 b1)
def rjoinP (a0 a1 b0 b1 : Int) : Int × Int := if a1 < a0 then nrm b0 b1 else if b1 < b0 then (a0, a1) else (mn a0 b0, mx a1 b1)
theorem join_1 (a0 a1 b0 b1 : Int) (w : World) (h : a1 < a0) :
    Calls Tryz.prog 51 #[.agg #[.int .i64 a0, .int .i64 a1], .agg #[.int .i64 b0, .int .i64 b1]] w fun e w' => e = .returned (.agg #[.int .i64 (ofP b0 b1).1, .int .i64 (ofP b0 b1).2]) ∧ Below w.heap.size w w' := by
  go_enter Tryz.func51, Tryz.ntmps51
  go_upto_region 1 with fail
  refine wp_world (fun W => W.heap[w.heap.size]? = some (.cells #[.int .i64 a0, .int .i64 a1] 53 (0, 0)) ∧ W.heap[w.heap.size + 1]? = some (.cells #[.int .i64 b0, .int .i64 b1] 53 (0, 0)) ∧ W.heap[w.heap.size + 2]? = some (.cells #[.int .i64 0, .int .i64 0] 53 (0, 0)) ∧ Below w.heap.size w W) ⟨blkUp (blkUp (blkA _ _ (by first | rfl | simp only [World.size_alloc])) _) _, blkUp (blkA _ _ (by first | rfl | simp only [World.size_alloc])) _, blkA _ _ (by first | rfl | simp only [World.size_alloc]), (((Below.refl _ _).alloc (by first | exact Nat.le_refl _ | (simp only [World.size_alloc]; omega)) _).alloc (by first | exact Nat.le_refl _ | (simp only [World.size_alloc]; omega)) _).alloc (by first | exact Nat.le_refl _ | (simp only [World.size_alloc]; omega)) _⟩ ?_
  rintro w1 ⟨k0, k1, k2, hB⟩
  have r0 := row_of k0
  have f0 := frozen_of k0
  have z0 := blk_lt k0
  have r1 := row_of k1
  have f1 := frozen_of k1
  have z1 := blk_lt k1
  have r2 := row_of k2
  have f2 := frozen_of k2
  have z2 := blk_lt k2
  have hd : decide (a1 < a0) = true := by simp; omega
  go_wp2_with fail
  refine (empty_any _ _ _).mono ?_
  rintro e w2 ⟨rfl, hb⟩
  replace k0 := blk_keep hb k0
  replace k1 := blk_keep hb k1
  replace k2 := blk_keep hb k2
  replace hB := hB.trans (hb.mono hB.size)
  clear r0 f0 z0 r1 f1 z1 r2 f2 z2
  clear hb
  have r0 := row_of k0
  have f0 := frozen_of k0
  have z0 := blk_lt k0
  have r1 := row_of k1
  have f1 := frozen_of k1
  have z1 := blk_lt k1
  have r2 := row_of k2
  have f2 := frozen_of k2
  have z2 := blk_lt k2
  go_wp2_with fail
  refine (of_any _ _ _).mono ?_
  rintro e w3 ⟨rfl, hb⟩
  replace k0 := blk_keep hb k0
  replace k1 := blk_keep hb k1
  replace k2 := blk_keep hb k2
  replace hB := hB.trans (hb.mono hB.size)
  clear r0 f0 z0 r1 f1 z1 r2 f2 z2
  clear hb
  have r0 := row_of k0
  have f0 := frozen_of k0
  have z0 := blk_lt k0
  have r1 := row_of k1
  have f1 := frozen_of k1
  have z1 := blk_lt k1
  have r2 := row_of k2
  have f2 := frozen_of k2
  have z2 := blk_lt k2
  go_wp2_with fail
  generalize hWF : (World.setCell (World.setCell _ _ _) _ _) = WF
  obtain ⟨kF, _, bF, _⟩ := put2 k2 _ _ hWF.symm
  clear r0 f0 z0 r1 f1 z1 r2 f2 z2
  clear hWF
  have rF := row_of kF
  exact bodyPost_ret (v := .agg #[.int .i64 (ofP b0 b1).1, .int .i64 (ofP b0 b1).2]) (by simp [results, Tryz.results51, go_sem, rF]) rfl ⟨rfl, hB.trans (bF _ (by show w.heap.size ≤ w.heap.size + 2; omega))⟩
theorem join_2 (a0 a1 b0 b1 : Int) (w : World) (h : a0 ≤ a1) (h2 : b1 < b0) :
    Calls Tryz.prog 51 #[.agg #[.int .i64 a0, .int .i64 a1], .agg #[.int .i64 b0, .int .i64 b1]] w fun e w' => e = .returned (.agg #[.int .i64 (ofP a0 a1).1, .int .i64 (ofP a0 a1).2]) ∧ Below w.heap.size w w' := by
  go_enter Tryz.func51, Tryz.ntmps51
  go_upto_region 1 with fail
  refine wp_world (fun W => W.heap[w.heap.size]? = some (.cells #[.int .i64 a0, .int .i64 a1] 53 (0, 0)) ∧ W.heap[w.heap.size + 1]? = some (.cells #[.int .i64 b0, .int .i64 b1] 53 (0, 0)) ∧ W.heap[w.heap.size + 2]? = some (.cells #[.int .i64 0, .int .i64 0] 53 (0, 0)) ∧ Below w.heap.size w W) ⟨blkUp (blkUp (blkA _ _ (by first | rfl | simp only [World.size_alloc])) _) _, blkUp (blkA _ _ (by first | rfl | simp only [World.size_alloc])) _, blkA _ _ (by first | rfl | simp only [World.size_alloc]), (((Below.refl _ _).alloc (by first | exact Nat.le_refl _ | (simp only [World.size_alloc]; omega)) _).alloc (by first | exact Nat.le_refl _ | (simp only [World.size_alloc]; omega)) _).alloc (by first | exact Nat.le_refl _ | (simp only [World.size_alloc]; omega)) _⟩ ?_
  rintro w1 ⟨k0, k1, k2, hB⟩
  have r0 := row_of k0
  have f0 := frozen_of k0
  have z0 := blk_lt k0
  have r1 := row_of k1
  have f1 := frozen_of k1
  have z1 := blk_lt k1
  have r2 := row_of k2
  have f2 := frozen_of k2
  have z2 := blk_lt k2
  have hd : decide (a1 < a0) = false := by simp; omega
  have hd2 : decide (b1 < b0) = true := by simp; omega
  go_wp2_with fail
  refine (empty_any _ _ _).mono ?_
  rintro e w2 ⟨rfl, hb⟩
  replace k0 := blk_keep hb k0
  replace k1 := blk_keep hb k1
  replace k2 := blk_keep hb k2
  replace hB := hB.trans (hb.mono hB.size)
  clear r0 f0 z0 r1 f1 z1 r2 f2 z2
  clear hb
  have r0 := row_of k0
  have f0 := frozen_of k0
  have z0 := blk_lt k0
  have r1 := row_of k1
  have f1 := frozen_of k1
  have z1 := blk_lt k1
  have r2 := row_of k2
  have f2 := frozen_of k2
  have z2 := blk_lt k2
  go_wp2_with fail
  refine (empty_any _ _ _).mono ?_
  rintro e w3 ⟨rfl, hb⟩
  replace k0 := blk_keep hb k0
  replace k1 := blk_keep hb k1
  replace k2 := blk_keep hb k2
  replace hB := hB.trans (hb.mono hB.size)
  clear r0 f0 z0 r1 f1 z1 r2 f2 z2
  clear hb
  have r0 := row_of k0
  have f0 := frozen_of k0
  have z0 := blk_lt k0
  have r1 := row_of k1
  have f1 := frozen_of k1
  have z1 := blk_lt k1
  have r2 := row_of k2
  have f2 := frozen_of k2
  have z2 := blk_lt k2
  go_wp2_with fail
  refine (of_any _ _ _).mono ?_
  rintro e w4 ⟨rfl, hb⟩
  replace k0 := blk_keep hb k0
  replace k1 := blk_keep hb k1
  replace k2 := blk_keep hb k2
  replace hB := hB.trans (hb.mono hB.size)
  clear r0 f0 z0 r1 f1 z1 r2 f2 z2
  clear hb
  have r0 := row_of k0
  have f0 := frozen_of k0
  have z0 := blk_lt k0
  have r1 := row_of k1
  have f1 := frozen_of k1
  have z1 := blk_lt k1
  have r2 := row_of k2
  have f2 := frozen_of k2
  have z2 := blk_lt k2
  go_wp2_with fail
  generalize hWF : (World.setCell (World.setCell _ _ _) _ _) = WF
  obtain ⟨kF, _, bF, _⟩ := put2 k2 _ _ hWF.symm
  clear r0 f0 z0 r1 f1 z1 r2 f2 z2
  clear hWF
  have rF := row_of kF
  exact bodyPost_ret (v := .agg #[.int .i64 (ofP a0 a1).1, .int .i64 (ofP a0 a1).2]) (by simp [results, Tryz.results51, go_sem, rF]) rfl ⟨rfl, hB.trans (bF _ (by show w.heap.size ≤ w.heap.size + 2; omega))⟩
theorem join_3 (a0 a1 b0 b1 : Int) (w : World) (h : a0 ≤ a1) (h2 : b0 ≤ b1) :
    Calls Tryz.prog 51 #[.agg #[.int .i64 a0, .int .i64 a1], .agg #[.int .i64 b0, .int .i64 b1]] w fun e w' => e = .returned (.agg #[.int .i64 (ofP (mn a0 b0) (mx a1 b1)).1, .int .i64 (ofP (mn a0 b0) (mx a1 b1)).2]) ∧ Below w.heap.size w w' := by
  go_enter Tryz.func51, Tryz.ntmps51
  go_upto_region 1 with fail
  refine wp_world (fun W => W.heap[w.heap.size]? = some (.cells #[.int .i64 a0, .int .i64 a1] 53 (0, 0)) ∧ W.heap[w.heap.size + 1]? = some (.cells #[.int .i64 b0, .int .i64 b1] 53 (0, 0)) ∧ W.heap[w.heap.size + 2]? = some (.cells #[.int .i64 0, .int .i64 0] 53 (0, 0)) ∧ Below w.heap.size w W) ⟨blkUp (blkUp (blkA _ _ (by first | rfl | simp only [World.size_alloc])) _) _, blkUp (blkA _ _ (by first | rfl | simp only [World.size_alloc])) _, blkA _ _ (by first | rfl | simp only [World.size_alloc]), (((Below.refl _ _).alloc (by first | exact Nat.le_refl _ | (simp only [World.size_alloc]; omega)) _).alloc (by first | exact Nat.le_refl _ | (simp only [World.size_alloc]; omega)) _).alloc (by first | exact Nat.le_refl _ | (simp only [World.size_alloc]; omega)) _⟩ ?_
  rintro w1 ⟨k0, k1, k2, hB⟩
  have r0 := row_of k0
  have f0 := frozen_of k0
  have z0 := blk_lt k0
  have r1 := row_of k1
  have f1 := frozen_of k1
  have z1 := blk_lt k1
  have r2 := row_of k2
  have f2 := frozen_of k2
  have z2 := blk_lt k2
  have hd : decide (a1 < a0) = false := by simp; omega
  have hd2 : decide (b1 < b0) = false := by simp; omega
  go_wp2_with fail
  refine (empty_any _ _ _).mono ?_
  rintro e w2 ⟨rfl, hb⟩
  replace k0 := blk_keep hb k0
  replace k1 := blk_keep hb k1
  replace k2 := blk_keep hb k2
  replace hB := hB.trans (hb.mono hB.size)
  clear r0 f0 z0 r1 f1 z1 r2 f2 z2
  clear hb
  have r0 := row_of k0
  have f0 := frozen_of k0
  have z0 := blk_lt k0
  have r1 := row_of k1
  have f1 := frozen_of k1
  have z1 := blk_lt k1
  have r2 := row_of k2
  have f2 := frozen_of k2
  have z2 := blk_lt k2
  go_wp2_with fail
  refine (empty_any _ _ _).mono ?_
  rintro e w3 ⟨rfl, hb⟩
  replace k0 := blk_keep hb k0
  replace k1 := blk_keep hb k1
  replace k2 := blk_keep hb k2
  replace hB := hB.trans (hb.mono hB.size)
  clear r0 f0 z0 r1 f1 z1 r2 f2 z2
  clear hb
  have r0 := row_of k0
  have f0 := frozen_of k0
  have z0 := blk_lt k0
  have r1 := row_of k1
  have f1 := frozen_of k1
  have z1 := blk_lt k1
  have r2 := row_of k2
  have f2 := frozen_of k2
  have z2 := blk_lt k2
  have hm : (if b0 < a0 then b0 else a0) = mn a0 b0 := rfl
  have hM : (if a1 < b1 then b1 else a1) = mx a1 b1 := rfl
  go_wp2_with fail
  refine (of_any _ _ _).mono ?_
  rintro e w4 ⟨rfl, hb⟩
  replace k0 := blk_keep hb k0
  replace k1 := blk_keep hb k1
  replace k2 := blk_keep hb k2
  replace hB := hB.trans (hb.mono hB.size)
  clear r0 f0 z0 r1 f1 z1 r2 f2 z2
  clear hb
  have r0 := row_of k0
  have f0 := frozen_of k0
  have z0 := blk_lt k0
  have r1 := row_of k1
  have f1 := frozen_of k1
  have z1 := blk_lt k1
  have r2 := row_of k2
  have f2 := frozen_of k2
  have z2 := blk_lt k2
  go_wp2_with fail
  generalize hWF : (World.setCell (World.setCell _ _ _) _ _) = WF
  obtain ⟨kF, _, bF, _⟩ := put2 k2 _ _ hWF.symm
  clear r0 f0 z0 r1 f1 z1 r2 f2 z2
  clear hWF
  have rF := row_of kF
  exact bodyPost_ret (v := .agg #[.int .i64 (ofP (mn a0 b0) (mx a1 b1)).1, .int .i64 (ofP (mn a0 b0) (mx a1 b1)).2]) (by simp [results, Tryz.results51, go_sem, rF]) rfl ⟨rfl, hB.trans (bF _ (by show w.heap.size ≤ w.heap.size + 2; omega))⟩
theorem join_any (a0 a1 b0 b1 : Int) (w : World) :
    Calls Tryz.prog 51 #[.agg #[.int .i64 a0, .int .i64 a1], .agg #[.int .i64 b0, .int .i64 b1]] w fun e w' => e = .returned (.agg #[.int .i64 (joinP a0 a1 b0 b1).1, .int .i64 (joinP a0 a1 b0 b1).2]) ∧ Below w.heap.size w w' := by
  unfold joinP
  by_cases h : a1 < a0
  · simpa [h] using join_1 a0 a1 b0 b1 w h
  · by_cases h2 : b1 < b0
    · simpa [h, h2] using join_2 a0 a1 b0 b1 w (by omega) h2
    · simpa [h, h2] using join_3 a0 a1 b0 b1 w (by omega) (by omega)
theorem meet_any (a0 a1 b0 b1 : Int) (w : World) :
    Calls Tryz.prog 85 #[.agg #[.int .i64 a0, .int .i64 a1], .agg #[.int .i64 b0, .int .i64 b1]] w fun e w' => e = .returned (.agg #[.int .i64 (meetP a0 a1 b0 b1).1, .int .i64 (meetP a0 a1 b0 b1).2]) ∧ Below w.heap.size w w' := by
  go_enter Tryz.func85, Tryz.ntmps85
  unfold meetP
  go_upto_region 1 with fail
  refine wp_world (fun W => W.heap[w.heap.size]? = some (.cells #[.int .i64 a0, .int .i64 a1] 53 (0, 0)) ∧ W.heap[w.heap.size + 1]? = some (.cells #[.int .i64 b0, .int .i64 b1] 53 (0, 0)) ∧ W.heap[w.heap.size + 2]? = some (.cells #[.int .i64 0, .int .i64 0] 53 (0, 0)) ∧ Below w.heap.size w W) ⟨blkUp (blkUp (blkA _ _ (by first | rfl | simp only [World.size_alloc])) _) _, blkUp (blkA _ _ (by first | rfl | simp only [World.size_alloc])) _, blkA _ _ (by first | rfl | simp only [World.size_alloc]), (((Below.refl _ _).alloc (by first | exact Nat.le_refl _ | (simp only [World.size_alloc]; omega)) _).alloc (by first | exact Nat.le_refl _ | (simp only [World.size_alloc]; omega)) _).alloc (by first | exact Nat.le_refl _ | (simp only [World.size_alloc]; omega)) _⟩ ?_
  rintro w1 ⟨k0, k1, k2, hB⟩
  have r0 := row_of k0
  have f0 := frozen_of k0
  have z0 := blk_lt k0
  have r1 := row_of k1
  have f1 := frozen_of k1
  have z1 := blk_lt k1
  have r2 := row_of k2
  have f2 := frozen_of k2
  have z2 := blk_lt k2
  have hm : (if a0 < b0 then b0 else a0) = mx a0 b0 := rfl
  have hM : (if b1 < a1 then b1 else a1) = mn a1 b1 := rfl
  go_wp2_with fail
  refine (of_any _ _ _).mono ?_
  rintro e w2 ⟨rfl, hb⟩
  replace k0 := blk_keep hb k0
  replace k1 := blk_keep hb k1
  replace k2 := blk_keep hb k2
  replace hB := hB.trans (hb.mono hB.size)
  clear r0 f0 z0 r1 f1 z1 r2 f2 z2
  clear hb
  have r0 := row_of k0
  have f0 := frozen_of k0
  have z0 := blk_lt k0
  have r1 := row_of k1
  have f1 := frozen_of k1
  have z1 := blk_lt k1
  have r2 := row_of k2
  have f2 := frozen_of k2
  have z2 := blk_lt k2
  go_wp2_with fail
  generalize hWF : (World.setCell (World.setCell _ _ _) _ _) = WF
  obtain ⟨kF, _, bF, _⟩ := put2 k2 _ _ hWF.symm
  clear r0 f0 z0 r1 f1 z1 r2 f2 z2
  clear hWF
  have rF := row_of kF
  exact bodyPost_ret (v := .agg #[.int .i64 (ofP (mx a0 b0) (mn a1 b1)).1, .int .i64 (ofP (mx a0 b0) (mn a1 b1)).2]) (by simp [results, Tryz.results85, go_sem, rF]) rfl ⟨rfl, hB.trans (bF _ (by show w.heap.size ≤ w.heap.size + 2; omega))⟩
end Go.Proofs.YtlgmofjjjhbgkaaGreat
namespace Go.Proofs.YtlgmofjjjhbgkaaGreat
open Go.RowKit
/-- Two pairs are stored, each into a block. -/
theorem put22 {W WF : World} {n m : Nat} {t u : TypeId} {d0 d1 c0 c1 : Value} (hne : n ≠ m) (h : W.heap[n]? = some (.cells #[d0, d1] t (0, 0))) (g : W.heap[m]? = some (.cells #[c0, c1] u (0, 0))) (v0 v1 u0 u1 : Value) (hW : WF = (((W.setCell ⟨n, 0, none⟩ v0).setCell ⟨n, 1, none⟩ v1).setCell ⟨m, 0, none⟩ u0).setCell ⟨m, 1, none⟩ u1) :
    WF.heap[n]? = some (.cells #[v0, v1] t (0, 0)) ∧ WF.heap[m]? = some (.cells #[u0, u1] u (0, 0)) ∧ (∀ B, B ≤ n → B ≤ m → Below B W WF) := by
  obtain ⟨h1, h2, h3, _⟩ := put2 h v0 v1 rfl
  have g1 := h2 m _ (Ne.symm hne) g
  obtain ⟨g2, g3, g4, _⟩ := put2 g1 u0 u1 hW
  exact ⟨g3 n _ hne h1, g2, fun B b1 b2 => (h3 B b1).trans (g4 B b2)⟩

set_option maxRecDepth 100000 in
theorem min4 (b : Nat) (e0 e1 e2 e3 : Int) (w : World) (_hb : b < w.heap.size) (c0 : w.cell? ⟨b, 0, none⟩ = some (.int .i64 e0)) (c1 : w.cell? ⟨b, 1, none⟩ = some (.int .i64 e1)) (c2 : w.cell? ⟨b, 2, none⟩ = some (.int .i64 e2)) (c3 : w.cell? ⟨b, 3, none⟩ = some (.int .i64 e3)) :
    Calls Tryz.prog 145 #[.slice (some ⟨b, 0, none⟩) 4 4] w fun e w' => e = .returned (.int .i64 (mn (mn (mn e0 e1) e2) e3)) ∧ w = w' := by
  have h1 : (if e1 < e0 then e1 else e0) = mn e0 e1 := rfl
  generalize hm1 : mn e0 e1 = m1 at *
  have h2 : (if e2 < m1 then e2 else m1) = mn m1 e2 := rfl
  generalize hm2 : mn m1 e2 = m2 at *
  have h3 : (if e3 < m2 then e3 else m2) = mn m2 e3 := rfl
  generalize hm3 : mn m2 e3 = m3 at *
  go_enter Tryz.func145, Tryz.ntmps145
  go_wp2_with fail
  refine wp_loop_rounds 4 ?_
  rw [rounds_succ]
  go_wp2_with fail
  rw [rounds_succ]
  go_wp2_with fail
  rw [rounds_succ]
  go_wp2_with fail
  rw [rounds_succ]
  go_wp2_with fail
  go_ret
  exact ⟨rfl, rfl⟩

set_option maxRecDepth 100000 in
theorem max4 (b : Nat) (e0 e1 e2 e3 : Int) (w : World) (_hb : b < w.heap.size) (c0 : w.cell? ⟨b, 0, none⟩ = some (.int .i64 e0)) (c1 : w.cell? ⟨b, 1, none⟩ = some (.int .i64 e1)) (c2 : w.cell? ⟨b, 2, none⟩ = some (.int .i64 e2)) (c3 : w.cell? ⟨b, 3, none⟩ = some (.int .i64 e3)) :
    Calls Tryz.prog 146 #[.slice (some ⟨b, 0, none⟩) 4 4] w fun e w' => e = .returned (.int .i64 (mx (mx (mx e0 e1) e2) e3)) ∧ w = w' := by
  have h1 : (if e0 < e1 then e1 else e0) = mx e0 e1 := rfl
  generalize hm1 : mx e0 e1 = m1 at *
  have h2 : (if m1 < e2 then e2 else m1) = mx m1 e2 := rfl
  generalize hm2 : mx m1 e2 = m2 at *
  have h3 : (if m2 < e3 then e3 else m2) = mx m2 e3 := rfl
  generalize hm3 : mx m2 e3 = m3 at *
  go_enter Tryz.func146, Tryz.ntmps146
  go_wp2_with fail
  refine wp_loop_rounds 4 ?_
  rw [rounds_succ]
  go_wp2_with fail
  rw [rounds_succ]
  go_wp2_with fail
  rw [rounds_succ]
  go_wp2_with fail
  rw [rounds_succ]
  go_wp2_with fail
  go_ret
  exact ⟨rfl, rfl⟩

theorem add_fn (x y : Int) (w : World) (h1 : -9223372036854775808 ≤ x + y) (h2 : x + y ≤ 9223372036854775807) :
    Calls Tryz.prog 139 #[.int .i64 x, .int .i64 y] w fun e w' => e = .returned (.int .i64 (x + y)) ∧ w = w' := by
  go_enter Tryz.func139, Tryz.ntmps139
  go_wp2
  go_ret
  exact ⟨by simp <;> (unfold wrap64; omega), rfl⟩

theorem sub_fn (x y : Int) (w : World) (h1 : -9223372036854775808 ≤ x - y) (h2 : x - y ≤ 9223372036854775807) :
    Calls Tryz.prog 140 #[.int .i64 x, .int .i64 y] w fun e w' => e = .returned (.int .i64 (x - y)) ∧ w = w' := by
  go_enter Tryz.func140, Tryz.ntmps140
  go_wp2
  go_ret
  exact ⟨by simp <;> (unfold wrap64; omega), rfl⟩

theorem mul_fn (x y : Int) (w : World) (h1 : -9223372036854775808 ≤ x * y) (h2 : x * y ≤ 9223372036854775807) :
    Calls Tryz.prog 141 #[.int .i64 x, .int .i64 y] w fun e w' => e = .returned (.int .i64 (x * y)) ∧ w = w' := by
  go_enter Tryz.func141, Tryz.ntmps141
  go_wp2
  go_ret
  exact ⟨by simp <;> (unfold wrap64; omega), rfl⟩

def bot (f : Int → Int → Int) (a0 a1 b0 b1 : Int) : Int := mn (mn (mn (f a0 b0) (f a0 b1)) (f a1 b0)) (f a1 b1)
def top (f : Int → Int → Int) (a0 a1 b0 b1 : Int) : Int := mx (mx (mx (f a0 b0) (f a0 b1)) (f a1 b0)) (f a1 b1)
def FnOk (n : Nat) (f : Int → Int → Int) (a0 a1 b0 b1 : Int) : Prop := ∀ (x y : Int) (w : World), (x = a0 ∨ x = a1) → (y = b0 ∨ y = b1) → Calls Tryz.prog n #[.int .i64 x, .int .i64 y] w fun e w' => e = .returned (.int .i64 (f x y)) ∧ w = w'

set_option maxRecDepth 100000 in
set_option maxHeartbeats 2000000 in
theorem ends_add (f : Int → Int → Int) (a0 a1 b0 b1 : Int) (w : World) (hf : FnOk 139 f a0 a1 b0 b1) :
    Calls Tryz.prog 138 #[.agg #[.int .i64 a0, .int .i64 a1], .agg #[.int .i64 b0, .int .i64 b1], .func (.func 139) #[] #[]] w fun e w' => e = .returned (.tuple #[.agg #[.int .i64 (ofP (bot f a0 a1 b0 b1) (top f a0 a1 b0 b1)).1, .int .i64 (ofP (bot f a0 a1 b0 b1) (top f a0 a1 b0 b1)).2], .agg #[.bool (decide (bot f a0 a1 b0 b1 < -2147483648) || decide (2147483647 < top f a0 a1 b0 b1)), .bool false]]) ∧ Below w.heap.size w w' := by
  replace hf := Lib.hid hf
  go_enter Tryz.func138, Tryz.ntmps138
  go_upto_region 1 with fail
  refine wp_world (fun W => W.heap[w.heap.size]? = some (.cells #[.int .i64 a0, .int .i64 a1] 53 (0, 0)) ∧ W.heap[w.heap.size + 1]? = some (.cells #[.int .i64 b0, .int .i64 b1] 53 (0, 0)) ∧ W.heap[w.heap.size + 2]? = some (.cells #[.int .i64 0, .int .i64 0] 53 (0, 0)) ∧ W.heap[w.heap.size + 3]? = some (.cells #[.bool false, .bool false] 128 (0, 0)) ∧ Below w.heap.size w W) ⟨blkUp (blkUp (blkUp (blkA _ _ (by first | rfl | simp only [World.size_alloc])) _) _) _, blkUp (blkUp (blkA _ _ (by first | rfl | simp only [World.size_alloc])) _) _, blkUp (blkA _ _ (by first | rfl | simp only [World.size_alloc])) _, blkA _ _ (by first | rfl | simp only [World.size_alloc]), ((((Below.refl _ _).alloc (by first | exact Nat.le_refl _ | (simp only [World.size_alloc]; omega)) _).alloc (by first | exact Nat.le_refl _ | (simp only [World.size_alloc]; omega)) _).alloc (by first | exact Nat.le_refl _ | (simp only [World.size_alloc]; omega)) _).alloc (by first | exact Nat.le_refl _ | (simp only [World.size_alloc]; omega)) _⟩ ?_
  rintro w1 ⟨k0, k1, k2, k3, hB⟩
  have r0 := row_of k0
  have f0 := frozen_of k0
  have z0 := blk_lt k0
  have r1 := row_of k1
  have f1 := frozen_of k1
  have z1 := blk_lt k1
  have r2 := row_of k2
  have f2 := frozen_of k2
  have z2 := blk_lt k2
  have r3 := row_of k3
  have f3 := frozen_of k3
  have z3 := blk_lt k3
  have hS : w1.cell? ⟨w.heap.size, 0, none⟩ = some (.int .i64 a0) ∧ w1.cell? ⟨w.heap.size, 1, none⟩ = some (.int .i64 a1) ∧ w1.cell? ⟨w.heap.size + 1, 0, none⟩ = some (.int .i64 b0) ∧ w1.cell? ⟨w.heap.size + 1, 1, none⟩ = some (.int .i64 b1) := ⟨row_of k0 0, row_of k0 1, row_of k1 0, row_of k1 1⟩
  have hS2 := hS
  obtain ⟨q0, q1, q2, q3⟩ := hS2
  clear r0 f0 z0 r1 f1 z1 r2 f2 z2 r3 f3 z3
  go_region_held3 (fun W => W.cell? ⟨w.heap.size, 0, none⟩ = some (.int .i64 a0) ∧ W.cell? ⟨w.heap.size, 1, none⟩ = some (.int .i64 a1) ∧ W.cell? ⟨w.heap.size + 1, 0, none⟩ = some (.int .i64 b0) ∧ W.cell? ⟨w.heap.size + 1, 1, none⟩ = some (.int .i64 b1)) (first | assumption | exact hS | go_keep) (first | (go_at_call 139; refine (hf.out _ _ _ (by simp) (by simp)).mono ?_; rintro e wn ⟨rfl, rfl⟩))
  go_upto_region 2 with fail
  clear hS q0 q1 q2 q3
  have hz1 : w.heap.size + 3 < w1.heap.size := blk_lt k3
  refine wp_world (fun W => W.heap[w.heap.size]? = some (.cells #[.int .i64 a0, .int .i64 a1] 53 (0, 0)) ∧ W.heap[w.heap.size + 1]? = some (.cells #[.int .i64 b0, .int .i64 b1] 53 (0, 0)) ∧ W.heap[w.heap.size + 2]? = some (.cells #[.int .i64 0, .int .i64 0] 53 (0, 0)) ∧ W.heap[w.heap.size + 3]? = some (.cells #[.bool false, .bool false] 128 (0, 0)) ∧ W.heap[w1.heap.size]? = some (.cells #[.int .i64 (f a0 b0), .int .i64 (f a0 b1), .int .i64 (f a1 b0), .int .i64 (f a1 b1)] 3 (0, 0)) ∧ Below w.heap.size w W) ⟨blkUp (k0) _, blkUp (k1) _, blkUp (k2) _, blkUp (k3) _, blkA _ _ (by first | rfl | simp only [World.size_alloc]), ((hB).alloc (by first | exact hB.size | (simp only [World.size_alloc]; omega)) _).drew⟩ ?_
  rintro w2 ⟨k0, k1, k2, k3, k4, hB⟩
  have r0 := row_of k0
  have f0 := frozen_of k0
  have z0 := blk_lt k0
  have r1 := row_of k1
  have f1 := frozen_of k1
  have z1 := blk_lt k1
  have r2 := row_of k2
  have f2 := frozen_of k2
  have z2 := blk_lt k2
  have r3 := row_of k3
  have f3 := frozen_of k3
  have z3 := blk_lt k3
  have r4 := row_of k4
  have f4 := frozen_of k4
  have z4 := blk_lt k4
  clear k0 r0 f0 z0 k1 r1 f1 z1
  go_wp2_with fail
  refine (min4 _ _ _ _ _ _ z4 (row_of k4 0) (row_of k4 1) (row_of k4 2) (row_of k4 3)).mono ?_
  rw [show mn (mn (mn (f a0 b0) (f a0 b1)) (f a1 b0)) (f a1 b1) = bot f a0 a1 b0 b1 from rfl]
  rintro e wq ⟨rfl, rfl⟩
  go_wp2_with fail
  refine (max4 _ _ _ _ _ _ z4 (row_of k4 0) (row_of k4 1) (row_of k4 2) (row_of k4 3)).mono ?_
  rw [show mx (mx (mx (f a0 b0) (f a0 b1)) (f a1 b0)) (f a1 b1) = top f a0 a1 b0 b1 from rfl]
  rintro e wq ⟨rfl, rfl⟩
  clear k4 r4 f4 z4
  generalize hLd : bot f a0 a1 b0 b1 = L
  generalize hHd : top f a0 a1 b0 b1 = H
  go_upto_region 3 with fail
  clear hf
  by_cases hL : L < -2147483648
  · have hd := decide_eq_true hL
    go_wp2_with fail
    refine (of_any _ _ _).mono ?_
    rintro e w3 ⟨rfl, hb⟩
    replace k2 := blk_keep hb k2
    replace k3 := blk_keep hb k3
    replace hB := hB.trans (hb.mono hB.size)
    clear r2 f2 z2 r3 f3 z3
    clear hb
    have r2 := row_of k2
    have f2 := frozen_of k2
    have z2 := blk_lt k2
    have r3 := row_of k3
    have f3 := frozen_of k3
    have z3 := blk_lt k3
    go_wp2_with fail
    generalize hWF : (World.setCell (World.setCell (World.setCell (World.setCell _ _ _) _ _) _ _) _ _) = WF
    obtain ⟨kF, kG, bF⟩ := put22 (by omega) k2 k3 _ _ _ _ hWF.symm
    clear r2 f2 z2 r3 f3 z3
    clear hWF
    have rF := row_of kF
    have rG := row_of kG
    exact bodyPost_ret (v := .tuple #[.agg #[.int .i64 (ofP L H).1, .int .i64 (ofP L H).2], .agg #[.bool (true), .bool false]]) (by simp [results, Tryz.results138, go_sem, rF, rG]) rfl ⟨by subst hLd hHd; rw [hd]; rfl, hB.trans (bF _ (by show w.heap.size ≤ w.heap.size + 2; omega) (by show w.heap.size ≤ w.heap.size + 3; omega))⟩
  · have hd := decide_eq_false hL
    go_wp2_with fail
    refine (of_any _ _ _).mono ?_
    rintro e w3 ⟨rfl, hb⟩
    replace k2 := blk_keep hb k2
    replace k3 := blk_keep hb k3
    replace hB := hB.trans (hb.mono hB.size)
    clear r2 f2 z2 r3 f3 z3
    clear hb
    have r2 := row_of k2
    have f2 := frozen_of k2
    have z2 := blk_lt k2
    have r3 := row_of k3
    have f3 := frozen_of k3
    have z3 := blk_lt k3
    go_wp2_with fail
    generalize hWF : (World.setCell (World.setCell (World.setCell (World.setCell _ _ _) _ _) _ _) _ _) = WF
    obtain ⟨kF, kG, bF⟩ := put22 (by omega) k2 k3 _ _ _ _ hWF.symm
    clear r2 f2 z2 r3 f3 z3
    clear hWF
    have rF := row_of kF
    have rG := row_of kG
    exact bodyPost_ret (v := .tuple #[.agg #[.int .i64 (ofP L H).1, .int .i64 (ofP L H).2], .agg #[.bool (decide (2147483647 < H)), .bool false]]) (by simp [results, Tryz.results138, go_sem, rF, rG]) rfl ⟨by subst hLd hHd; rw [hd]; rfl, hB.trans (bF _ (by show w.heap.size ≤ w.heap.size + 2; omega) (by show w.heap.size ≤ w.heap.size + 3; omega))⟩
set_option maxRecDepth 100000 in
set_option maxHeartbeats 2000000 in
theorem ends_sub (f : Int → Int → Int) (a0 a1 b0 b1 : Int) (w : World) (hf : FnOk 140 f a0 a1 b0 b1) :
    Calls Tryz.prog 138 #[.agg #[.int .i64 a0, .int .i64 a1], .agg #[.int .i64 b0, .int .i64 b1], .func (.func 140) #[] #[]] w fun e w' => e = .returned (.tuple #[.agg #[.int .i64 (ofP (bot f a0 a1 b0 b1) (top f a0 a1 b0 b1)).1, .int .i64 (ofP (bot f a0 a1 b0 b1) (top f a0 a1 b0 b1)).2], .agg #[.bool (decide (bot f a0 a1 b0 b1 < -2147483648) || decide (2147483647 < top f a0 a1 b0 b1)), .bool false]]) ∧ Below w.heap.size w w' := by
  replace hf := Lib.hid hf
  go_enter Tryz.func138, Tryz.ntmps138
  go_upto_region 1 with fail
  refine wp_world (fun W => W.heap[w.heap.size]? = some (.cells #[.int .i64 a0, .int .i64 a1] 53 (0, 0)) ∧ W.heap[w.heap.size + 1]? = some (.cells #[.int .i64 b0, .int .i64 b1] 53 (0, 0)) ∧ W.heap[w.heap.size + 2]? = some (.cells #[.int .i64 0, .int .i64 0] 53 (0, 0)) ∧ W.heap[w.heap.size + 3]? = some (.cells #[.bool false, .bool false] 128 (0, 0)) ∧ Below w.heap.size w W) ⟨blkUp (blkUp (blkUp (blkA _ _ (by first | rfl | simp only [World.size_alloc])) _) _) _, blkUp (blkUp (blkA _ _ (by first | rfl | simp only [World.size_alloc])) _) _, blkUp (blkA _ _ (by first | rfl | simp only [World.size_alloc])) _, blkA _ _ (by first | rfl | simp only [World.size_alloc]), ((((Below.refl _ _).alloc (by first | exact Nat.le_refl _ | (simp only [World.size_alloc]; omega)) _).alloc (by first | exact Nat.le_refl _ | (simp only [World.size_alloc]; omega)) _).alloc (by first | exact Nat.le_refl _ | (simp only [World.size_alloc]; omega)) _).alloc (by first | exact Nat.le_refl _ | (simp only [World.size_alloc]; omega)) _⟩ ?_
  rintro w1 ⟨k0, k1, k2, k3, hB⟩
  have r0 := row_of k0
  have f0 := frozen_of k0
  have z0 := blk_lt k0
  have r1 := row_of k1
  have f1 := frozen_of k1
  have z1 := blk_lt k1
  have r2 := row_of k2
  have f2 := frozen_of k2
  have z2 := blk_lt k2
  have r3 := row_of k3
  have f3 := frozen_of k3
  have z3 := blk_lt k3
  have hS : w1.cell? ⟨w.heap.size, 0, none⟩ = some (.int .i64 a0) ∧ w1.cell? ⟨w.heap.size, 1, none⟩ = some (.int .i64 a1) ∧ w1.cell? ⟨w.heap.size + 1, 0, none⟩ = some (.int .i64 b0) ∧ w1.cell? ⟨w.heap.size + 1, 1, none⟩ = some (.int .i64 b1) := ⟨row_of k0 0, row_of k0 1, row_of k1 0, row_of k1 1⟩
  have hS2 := hS
  obtain ⟨q0, q1, q2, q3⟩ := hS2
  clear r0 f0 z0 r1 f1 z1 r2 f2 z2 r3 f3 z3
  go_region_held3 (fun W => W.cell? ⟨w.heap.size, 0, none⟩ = some (.int .i64 a0) ∧ W.cell? ⟨w.heap.size, 1, none⟩ = some (.int .i64 a1) ∧ W.cell? ⟨w.heap.size + 1, 0, none⟩ = some (.int .i64 b0) ∧ W.cell? ⟨w.heap.size + 1, 1, none⟩ = some (.int .i64 b1)) (first | assumption | exact hS | go_keep) (first | (go_at_call 140; refine (hf.out _ _ _ (by simp) (by simp)).mono ?_; rintro e wn ⟨rfl, rfl⟩))
  go_upto_region 2 with fail
  clear hS q0 q1 q2 q3
  have hz1 : w.heap.size + 3 < w1.heap.size := blk_lt k3
  refine wp_world (fun W => W.heap[w.heap.size]? = some (.cells #[.int .i64 a0, .int .i64 a1] 53 (0, 0)) ∧ W.heap[w.heap.size + 1]? = some (.cells #[.int .i64 b0, .int .i64 b1] 53 (0, 0)) ∧ W.heap[w.heap.size + 2]? = some (.cells #[.int .i64 0, .int .i64 0] 53 (0, 0)) ∧ W.heap[w.heap.size + 3]? = some (.cells #[.bool false, .bool false] 128 (0, 0)) ∧ W.heap[w1.heap.size]? = some (.cells #[.int .i64 (f a0 b0), .int .i64 (f a0 b1), .int .i64 (f a1 b0), .int .i64 (f a1 b1)] 3 (0, 0)) ∧ Below w.heap.size w W) ⟨blkUp (k0) _, blkUp (k1) _, blkUp (k2) _, blkUp (k3) _, blkA _ _ (by first | rfl | simp only [World.size_alloc]), ((hB).alloc (by first | exact hB.size | (simp only [World.size_alloc]; omega)) _).drew⟩ ?_
  rintro w2 ⟨k0, k1, k2, k3, k4, hB⟩
  have r0 := row_of k0
  have f0 := frozen_of k0
  have z0 := blk_lt k0
  have r1 := row_of k1
  have f1 := frozen_of k1
  have z1 := blk_lt k1
  have r2 := row_of k2
  have f2 := frozen_of k2
  have z2 := blk_lt k2
  have r3 := row_of k3
  have f3 := frozen_of k3
  have z3 := blk_lt k3
  have r4 := row_of k4
  have f4 := frozen_of k4
  have z4 := blk_lt k4
  clear k0 r0 f0 z0 k1 r1 f1 z1
  go_wp2_with fail
  refine (min4 _ _ _ _ _ _ z4 (row_of k4 0) (row_of k4 1) (row_of k4 2) (row_of k4 3)).mono ?_
  rw [show mn (mn (mn (f a0 b0) (f a0 b1)) (f a1 b0)) (f a1 b1) = bot f a0 a1 b0 b1 from rfl]
  rintro e wq ⟨rfl, rfl⟩
  go_wp2_with fail
  refine (max4 _ _ _ _ _ _ z4 (row_of k4 0) (row_of k4 1) (row_of k4 2) (row_of k4 3)).mono ?_
  rw [show mx (mx (mx (f a0 b0) (f a0 b1)) (f a1 b0)) (f a1 b1) = top f a0 a1 b0 b1 from rfl]
  rintro e wq ⟨rfl, rfl⟩
  clear k4 r4 f4 z4
  generalize hLd : bot f a0 a1 b0 b1 = L
  generalize hHd : top f a0 a1 b0 b1 = H
  go_upto_region 3 with fail
  clear hf
  by_cases hL : L < -2147483648
  · have hd := decide_eq_true hL
    go_wp2_with fail
    refine (of_any _ _ _).mono ?_
    rintro e w3 ⟨rfl, hb⟩
    replace k2 := blk_keep hb k2
    replace k3 := blk_keep hb k3
    replace hB := hB.trans (hb.mono hB.size)
    clear r2 f2 z2 r3 f3 z3
    clear hb
    have r2 := row_of k2
    have f2 := frozen_of k2
    have z2 := blk_lt k2
    have r3 := row_of k3
    have f3 := frozen_of k3
    have z3 := blk_lt k3
    go_wp2_with fail
    generalize hWF : (World.setCell (World.setCell (World.setCell (World.setCell _ _ _) _ _) _ _) _ _) = WF
    obtain ⟨kF, kG, bF⟩ := put22 (by omega) k2 k3 _ _ _ _ hWF.symm
    clear r2 f2 z2 r3 f3 z3
    clear hWF
    have rF := row_of kF
    have rG := row_of kG
    exact bodyPost_ret (v := .tuple #[.agg #[.int .i64 (ofP L H).1, .int .i64 (ofP L H).2], .agg #[.bool (true), .bool false]]) (by simp [results, Tryz.results138, go_sem, rF, rG]) rfl ⟨by subst hLd hHd; rw [hd]; rfl, hB.trans (bF _ (by show w.heap.size ≤ w.heap.size + 2; omega) (by show w.heap.size ≤ w.heap.size + 3; omega))⟩
  · have hd := decide_eq_false hL
    go_wp2_with fail
    refine (of_any _ _ _).mono ?_
    rintro e w3 ⟨rfl, hb⟩
    replace k2 := blk_keep hb k2
    replace k3 := blk_keep hb k3
    replace hB := hB.trans (hb.mono hB.size)
    clear r2 f2 z2 r3 f3 z3
    clear hb
    have r2 := row_of k2
    have f2 := frozen_of k2
    have z2 := blk_lt k2
    have r3 := row_of k3
    have f3 := frozen_of k3
    have z3 := blk_lt k3
    go_wp2_with fail
    generalize hWF : (World.setCell (World.setCell (World.setCell (World.setCell _ _ _) _ _) _ _) _ _) = WF
    obtain ⟨kF, kG, bF⟩ := put22 (by omega) k2 k3 _ _ _ _ hWF.symm
    clear r2 f2 z2 r3 f3 z3
    clear hWF
    have rF := row_of kF
    have rG := row_of kG
    exact bodyPost_ret (v := .tuple #[.agg #[.int .i64 (ofP L H).1, .int .i64 (ofP L H).2], .agg #[.bool (decide (2147483647 < H)), .bool false]]) (by simp [results, Tryz.results138, go_sem, rF, rG]) rfl ⟨by subst hLd hHd; rw [hd]; rfl, hB.trans (bF _ (by show w.heap.size ≤ w.heap.size + 2; omega) (by show w.heap.size ≤ w.heap.size + 3; omega))⟩
end Go.Proofs.YtlgmofjjjhbgkaaGreat
namespace Go.Proofs.YtlgmofjjjhbgkaaGreat
open Go.RowKit
theorem nrm_in (l h : Int) (hh : l ≤ h) : nrm l h = (l, h) := if_neg (by omega)
theorem ofP_in (l h : Int) (h1 : -2147483648 ≤ l) (h2 : h ≤ 2147483647) (hh : l ≤ h) : ofP l h = (l, h) := by
  unfold ofP mx mn
  rw [nrm_in _ _ (by split <;> split <;> omega)]
  congr 1 <;> split <;> omega
theorem const_in (n : Int) (w : World) (h1 : -2147483648 ≤ n) (h2 : n ≤ 2147483647) :
    Calls Tryz.prog 16 #[.int .i64 n] w fun e w' => e = .returned (.agg #[.int .i64 n, .int .i64 n]) ∧ Below w.heap.size w w' := by
  have h := const_any n w
  rwa [ofP_in n n h1 h2 (Int.le_refl n)] at h
theorem of_in (l h : Int) (w : World) (h1 : -2147483648 ≤ l) (h2 : h ≤ 2147483647) (hh : l ≤ h) :
    Calls Tryz.prog 21 #[.int .i64 l, .int .i64 h] w fun e w' => e = .returned (.agg #[.int .i64 l, .int .i64 h]) ∧ Below w.heap.size w w' := by
  have h := of_any l h w
  rwa [ofP_in l _ h1 h2 hh] at h

set_option maxRecDepth 100000 in
theorem do_fadd (f : Int → Int → Int) (a0 a1 b0 b1 : Int) (w : World) (ha : a0 ≤ a1) (hb : b0 ≤ b1) (hf : FnOk 139 f a0 a1 b0 b1) :
    Calls Tryz.prog 128 #[.int .i64 4, .agg #[.int .i64 a0, .int .i64 a1], .agg #[.int .i64 b0, .int .i64 b1]] w fun e w' => e = .returned (.tuple #[.agg #[.int .i64 (ofP (bot f a0 a1 b0 b1) (top f a0 a1 b0 b1)).1, .int .i64 (ofP (bot f a0 a1 b0 b1) (top f a0 a1 b0 b1)).2], .agg #[.bool (decide (bot f a0 a1 b0 b1 < -2147483648) || decide (2147483647 < top f a0 a1 b0 b1)), .bool false]]) ∧ Below w.heap.size w w' := by
  have hd1 : decide (a1 < a0) = false := by simp; omega
  have hd2 : decide (b1 < b0) = false := by simp; omega
  replace hf := Lib.hid hf
  clear ha hb
  go_enter Tryz.func128, Tryz.ntmps128
  go_upto_region 1 with fail
  refine wp_world (fun W => W.heap[w.heap.size]? = some (.cells #[.int .i64 a0, .int .i64 a1] 53 (0, 0)) ∧ W.heap[w.heap.size + 1]? = some (.cells #[.int .i64 b0, .int .i64 b1] 53 (0, 0)) ∧ W.heap[w.heap.size + 2]? = some (.cells #[.int .i64 0, .int .i64 0] 53 (0, 0)) ∧ W.heap[w.heap.size + 3]? = some (.cells #[.bool false, .bool false] 128 (0, 0)) ∧ Below w.heap.size w W) ⟨blkUp (blkUp (blkUp (blkA _ _ (by first | rfl | simp only [World.size_alloc])) _) _) _, blkUp (blkUp (blkA _ _ (by first | rfl | simp only [World.size_alloc])) _) _, blkUp (blkA _ _ (by first | rfl | simp only [World.size_alloc])) _, blkA _ _ (by first | rfl | simp only [World.size_alloc]), ((((Below.refl _ _).alloc (by first | exact Nat.le_refl _ | (simp only [World.size_alloc]; omega)) _).alloc (by first | exact Nat.le_refl _ | (simp only [World.size_alloc]; omega)) _).alloc (by first | exact Nat.le_refl _ | (simp only [World.size_alloc]; omega)) _).alloc (by first | exact Nat.le_refl _ | (simp only [World.size_alloc]; omega)) _⟩ ?_
  rintro w1 ⟨k0, k1, k2, k3, hB⟩
  have r0 := row_of k0
  have f0 := frozen_of k0
  have z0 := blk_lt k0
  have r1 := row_of k1
  have f1 := frozen_of k1
  have z1 := blk_lt k1
  have r2 := row_of k2
  have f2 := frozen_of k2
  have z2 := blk_lt k2
  have r3 := row_of k3
  have f3 := frozen_of k3
  have z3 := blk_lt k3
  go_wp2_with fail
  refine (empty_any _ _ _).mono ?_
  rintro e w2 ⟨rfl, hb⟩
  replace k0 := blk_keep hb k0
  replace k1 := blk_keep hb k1
  replace k2 := blk_keep hb k2
  replace k3 := blk_keep hb k3
  replace hB := hB.trans (hb.mono hB.size)
  clear r0 f0 z0 r1 f1 z1 r2 f2 z2 r3 f3 z3
  clear hb
  have r0 := row_of k0
  have f0 := frozen_of k0
  have z0 := blk_lt k0
  have r1 := row_of k1
  have f1 := frozen_of k1
  have z1 := blk_lt k1
  have r2 := row_of k2
  have f2 := frozen_of k2
  have z2 := blk_lt k2
  have r3 := row_of k3
  have f3 := frozen_of k3
  have z3 := blk_lt k3
  go_wp2_with fail
  refine (empty_any _ _ _).mono ?_
  rintro e w3 ⟨rfl, hb⟩
  replace k0 := blk_keep hb k0
  replace k1 := blk_keep hb k1
  replace k2 := blk_keep hb k2
  replace k3 := blk_keep hb k3
  replace hB := hB.trans (hb.mono hB.size)
  clear r0 f0 z0 r1 f1 z1 r2 f2 z2 r3 f3 z3
  clear hb
  have r0 := row_of k0
  have f0 := frozen_of k0
  have z0 := blk_lt k0
  have r1 := row_of k1
  have f1 := frozen_of k1
  have z1 := blk_lt k1
  have r2 := row_of k2
  have f2 := frozen_of k2
  have z2 := blk_lt k2
  have r3 := row_of k3
  have f3 := frozen_of k3
  have z3 := blk_lt k3
  go_wp2_with fail
  refine (ends_add f _ _ _ _ _ hf.out).mono ?_
  rintro e w4 ⟨rfl, hb⟩
  replace k0 := blk_keep hb k0
  replace k1 := blk_keep hb k1
  replace k2 := blk_keep hb k2
  replace k3 := blk_keep hb k3
  replace hB := hB.trans (hb.mono hB.size)
  clear r0 f0 z0 r1 f1 z1 r2 f2 z2 r3 f3 z3
  clear hb
  have r0 := row_of k0
  have f0 := frozen_of k0
  have z0 := blk_lt k0
  have r1 := row_of k1
  have f1 := frozen_of k1
  have z1 := blk_lt k1
  have r2 := row_of k2
  have f2 := frozen_of k2
  have z2 := blk_lt k2
  have r3 := row_of k3
  have f3 := frozen_of k3
  have z3 := blk_lt k3
  go_wp2_with fail
  generalize hWF : (World.setCell (World.setCell (World.setCell (World.setCell _ _ _) _ _) _ _) _ _) = WF
  obtain ⟨kF, kG, bF⟩ := put22 (by omega) k2 k3 _ _ _ _ hWF.symm
  clear r0 f0 z0 r1 f1 z1 r2 f2 z2 r3 f3 z3
  clear hWF
  have rF := row_of kF
  have rG := row_of kG
  exact bodyPost_ret (v := .tuple #[.agg #[.int .i64 (ofP (bot f a0 a1 b0 b1) (top f a0 a1 b0 b1)).1, .int .i64 (ofP (bot f a0 a1 b0 b1) (top f a0 a1 b0 b1)).2], .agg #[.bool (decide (bot f a0 a1 b0 b1 < -2147483648) || decide (2147483647 < top f a0 a1 b0 b1)), .bool false]]) (by simp [results, Tryz.results128, go_sem, rF, rG]) rfl ⟨rfl, hB.trans (bF _ (by show w.heap.size ≤ w.heap.size + 2; omega) (by show w.heap.size ≤ w.heap.size + 3; omega))⟩
set_option maxRecDepth 100000 in
theorem do_fsub (f : Int → Int → Int) (a0 a1 b0 b1 : Int) (w : World) (ha : a0 ≤ a1) (hb : b0 ≤ b1) (hf : FnOk 140 f a0 a1 b0 b1) :
    Calls Tryz.prog 128 #[.int .i64 5, .agg #[.int .i64 a0, .int .i64 a1], .agg #[.int .i64 b0, .int .i64 b1]] w fun e w' => e = .returned (.tuple #[.agg #[.int .i64 (ofP (bot f a0 a1 b0 b1) (top f a0 a1 b0 b1)).1, .int .i64 (ofP (bot f a0 a1 b0 b1) (top f a0 a1 b0 b1)).2], .agg #[.bool (decide (bot f a0 a1 b0 b1 < -2147483648) || decide (2147483647 < top f a0 a1 b0 b1)), .bool false]]) ∧ Below w.heap.size w w' := by
  have hd1 : decide (a1 < a0) = false := by simp; omega
  have hd2 : decide (b1 < b0) = false := by simp; omega
  replace hf := Lib.hid hf
  clear ha hb
  go_enter Tryz.func128, Tryz.ntmps128
  go_upto_region 1 with fail
  refine wp_world (fun W => W.heap[w.heap.size]? = some (.cells #[.int .i64 a0, .int .i64 a1] 53 (0, 0)) ∧ W.heap[w.heap.size + 1]? = some (.cells #[.int .i64 b0, .int .i64 b1] 53 (0, 0)) ∧ W.heap[w.heap.size + 2]? = some (.cells #[.int .i64 0, .int .i64 0] 53 (0, 0)) ∧ W.heap[w.heap.size + 3]? = some (.cells #[.bool false, .bool false] 128 (0, 0)) ∧ Below w.heap.size w W) ⟨blkUp (blkUp (blkUp (blkA _ _ (by first | rfl | simp only [World.size_alloc])) _) _) _, blkUp (blkUp (blkA _ _ (by first | rfl | simp only [World.size_alloc])) _) _, blkUp (blkA _ _ (by first | rfl | simp only [World.size_alloc])) _, blkA _ _ (by first | rfl | simp only [World.size_alloc]), ((((Below.refl _ _).alloc (by first | exact Nat.le_refl _ | (simp only [World.size_alloc]; omega)) _).alloc (by first | exact Nat.le_refl _ | (simp only [World.size_alloc]; omega)) _).alloc (by first | exact Nat.le_refl _ | (simp only [World.size_alloc]; omega)) _).alloc (by first | exact Nat.le_refl _ | (simp only [World.size_alloc]; omega)) _⟩ ?_
  rintro w1 ⟨k0, k1, k2, k3, hB⟩
  have r0 := row_of k0
  have f0 := frozen_of k0
  have z0 := blk_lt k0
  have r1 := row_of k1
  have f1 := frozen_of k1
  have z1 := blk_lt k1
  have r2 := row_of k2
  have f2 := frozen_of k2
  have z2 := blk_lt k2
  have r3 := row_of k3
  have f3 := frozen_of k3
  have z3 := blk_lt k3
  go_wp2_with fail
  refine (empty_any _ _ _).mono ?_
  rintro e w2 ⟨rfl, hb⟩
  replace k0 := blk_keep hb k0
  replace k1 := blk_keep hb k1
  replace k2 := blk_keep hb k2
  replace k3 := blk_keep hb k3
  replace hB := hB.trans (hb.mono hB.size)
  clear r0 f0 z0 r1 f1 z1 r2 f2 z2 r3 f3 z3
  clear hb
  have r0 := row_of k0
  have f0 := frozen_of k0
  have z0 := blk_lt k0
  have r1 := row_of k1
  have f1 := frozen_of k1
  have z1 := blk_lt k1
  have r2 := row_of k2
  have f2 := frozen_of k2
  have z2 := blk_lt k2
  have r3 := row_of k3
  have f3 := frozen_of k3
  have z3 := blk_lt k3
  go_wp2_with fail
  refine (empty_any _ _ _).mono ?_
  rintro e w3 ⟨rfl, hb⟩
  replace k0 := blk_keep hb k0
  replace k1 := blk_keep hb k1
  replace k2 := blk_keep hb k2
  replace k3 := blk_keep hb k3
  replace hB := hB.trans (hb.mono hB.size)
  clear r0 f0 z0 r1 f1 z1 r2 f2 z2 r3 f3 z3
  clear hb
  have r0 := row_of k0
  have f0 := frozen_of k0
  have z0 := blk_lt k0
  have r1 := row_of k1
  have f1 := frozen_of k1
  have z1 := blk_lt k1
  have r2 := row_of k2
  have f2 := frozen_of k2
  have z2 := blk_lt k2
  have r3 := row_of k3
  have f3 := frozen_of k3
  have z3 := blk_lt k3
  go_wp2_with fail
  refine (ends_sub f _ _ _ _ _ hf.out).mono ?_
  rintro e w4 ⟨rfl, hb⟩
  replace k0 := blk_keep hb k0
  replace k1 := blk_keep hb k1
  replace k2 := blk_keep hb k2
  replace k3 := blk_keep hb k3
  replace hB := hB.trans (hb.mono hB.size)
  clear r0 f0 z0 r1 f1 z1 r2 f2 z2 r3 f3 z3
  clear hb
  have r0 := row_of k0
  have f0 := frozen_of k0
  have z0 := blk_lt k0
  have r1 := row_of k1
  have f1 := frozen_of k1
  have z1 := blk_lt k1
  have r2 := row_of k2
  have f2 := frozen_of k2
  have z2 := blk_lt k2
  have r3 := row_of k3
  have f3 := frozen_of k3
  have z3 := blk_lt k3
  go_wp2_with fail
  generalize hWF : (World.setCell (World.setCell (World.setCell (World.setCell _ _ _) _ _) _ _) _ _) = WF
  obtain ⟨kF, kG, bF⟩ := put22 (by omega) k2 k3 _ _ _ _ hWF.symm
  clear r0 f0 z0 r1 f1 z1 r2 f2 z2 r3 f3 z3
  clear hWF
  have rF := row_of kF
  have rG := row_of kG
  exact bodyPost_ret (v := .tuple #[.agg #[.int .i64 (ofP (bot f a0 a1 b0 b1) (top f a0 a1 b0 b1)).1, .int .i64 (ofP (bot f a0 a1 b0 b1) (top f a0 a1 b0 b1)).2], .agg #[.bool (decide (bot f a0 a1 b0 b1 < -2147483648) || decide (2147483647 < top f a0 a1 b0 b1)), .bool false]]) (by simp [results, Tryz.results128, go_sem, rF, rG]) rfl ⟨rfl, hB.trans (bF _ (by show w.heap.size ≤ w.heap.size + 2; omega) (by show w.heap.size ≤ w.heap.size + 3; omega))⟩
theorem do_add (a0 a1 b0 b1 : Int) (w : World) (ha : a0 ≤ a1) (hb : b0 ≤ b1) (h1 : -2147483648 ≤ a0) (h2 : a1 ≤ 2147483647) (h3 : -2147483648 ≤ b0) (h4 : b1 ≤ 2147483647) :
    Calls Tryz.prog 128 #[.int .i64 4, .agg #[.int .i64 a0, .int .i64 a1], .agg #[.int .i64 b0, .int .i64 b1]] w fun e w' => e = .returned (.tuple #[.agg #[.int .i64 (ofP (a0 + b0) (a1 + b1)).1, .int .i64 (ofP (a0 + b0) (a1 + b1)).2], .agg #[.bool (decide (a0 + b0 < -2147483648) || decide (2147483647 < a1 + b1)), .bool false]]) ∧ Below w.heap.size w w' := by
  have h := do_fadd (fun x y => x + y) a0 a1 b0 b1 w ha hb (fun x y w hx hy => add_fn x y w (by omega) (by omega))
  have eL : bot (fun x y => x + y) a0 a1 b0 b1 = a0 + b0 := by unfold bot mn; dsimp only; repeat' split
                                                               all_goals omega
  have eH : top (fun x y => x + y) a0 a1 b0 b1 = a1 + b1 := by unfold top mx; dsimp only; repeat' split
                                                               all_goals omega
  rwa [eL, eH] at h
theorem do_sub (a0 a1 b0 b1 : Int) (w : World) (ha : a0 ≤ a1) (hb : b0 ≤ b1) (h1 : -2147483648 ≤ a0) (h2 : a1 ≤ 2147483647) (h3 : -2147483648 ≤ b0) (h4 : b1 ≤ 2147483647) :
    Calls Tryz.prog 128 #[.int .i64 5, .agg #[.int .i64 a0, .int .i64 a1], .agg #[.int .i64 b0, .int .i64 b1]] w fun e w' => e = .returned (.tuple #[.agg #[.int .i64 (ofP (a0 - b1) (a1 - b0)).1, .int .i64 (ofP (a0 - b1) (a1 - b0)).2], .agg #[.bool (decide (a0 - b1 < -2147483648) || decide (2147483647 < a1 - b0)), .bool false]]) ∧ Below w.heap.size w w' := by
  have h := do_fsub (fun x y => x - y) a0 a1 b0 b1 w ha hb (fun x y w hx hy => sub_fn x y w (by omega) (by omega))
  have eL : bot (fun x y => x - y) a0 a1 b0 b1 = a0 - b1 := by unfold bot mn; dsimp only; repeat' split
                                                               all_goals omega
  have eH : top (fun x y => x - y) a0 a1 b0 b1 = a1 - b0 := by unfold top mx; dsimp only; repeat' split
                                                               all_goals omega
  rwa [eL, eH] at h
end Go.Proofs.YtlgmofjjjhbgkaaGreat
namespace Go.Proofs.YtlgmofjjjhbgkaaGreat
open Go.RowKit

theorem below_undrew {W W' : World} (h : Below W.drew.heap.size W.drew W') : Below W.heap.size W W' := (Below.refl _ W).drew.trans h
theorem below_al {W0 W : World} (h : Below W0.heap.size W0 W) (x : Obj) : Below W0.heap.size W0 (W.alloc x) := h.alloc h.size x
theorem below_tr {W0 W W' : World} (h : Below W0.heap.size W0 W) (hb : Below W.heap.size W W') : Below W0.heap.size W0 W' := h.trans (hb.mono h.size)
theorem below_put {W0 W : World} {g : Nat} {u v : Value} (h : Below W0.heap.size W0 W) (hg : W0.heap.size ≤ g) : Below W0.heap.size W0 ((W.setCell ⟨g, 0, none⟩ u).setCell ⟨g, 1, none⟩ v) := (h.setCell (p := ⟨g, 0, none⟩) hg u).setCell (p := ⟨g, 1, none⟩) hg v
theorem blkT1 {W W' : World} {x : Obj} (h : Below (W.alloc x).heap.size (W.alloc x) W') : W'.heap[W.heap.size]? = some x := blk_keep h (blkA W x rfl)
theorem blkT2a {W W' : World} {x y : Obj} (h : Below ((W.alloc x).alloc y).heap.size ((W.alloc x).alloc y) W') : W'.heap[W.heap.size]? = some x := blk_keep h (blkUp (blkA W x rfl) y)
theorem blkT2b {W W' : World} {x y : Obj} (h : Below ((W.alloc x).alloc y).heap.size ((W.alloc x).alloc y) W') : W'.heap[W.heap.size + 1]? = some y := blk_keep h (blkA (W.alloc x) y (by simp only [World.size_alloc]))
theorem setab {W : World} {n : Nat} {t : TypeId} {a b u v : Value} (h : W.heap[n]? = some (.cells #[a, b] t (0, 0))) : ((W.setCell ⟨n, 0, none⟩ u).setCell ⟨n, 1, none⟩ v).heap[n]? = some (.cells #[u, v] t (0, 0)) := (put2 h u v rfl).1
theorem setno {W : World} {n g : Nat} {x : Obj} {u v : Value} (h : W.heap[n]? = some x) (hne : n ≠ g) : ((W.setCell ⟨g, 0, none⟩ u).setCell ⟨g, 1, none⟩ v).heap[n]? = some x := blk_set (blk_set h hne) hne
/-- Two new blocks of two cells; all that was there is as it was. -/
def TwoCut (W0 : World) (t u : TypeId) (a b c d : Value) (e5 e6 : Value) (wx : World) : Prop := ∃ n m : Nat, e5 = .pointer (some ⟨n, 0, none⟩) ∧ e6 = .pointer (some ⟨m, 0, none⟩) ∧ n ≠ m ∧ W0.heap.size ≤ n ∧ W0.heap.size ≤ m ∧ wx.heap[n]? = some (.cells #[a, b] t (0, 0)) ∧ wx.heap[m]? = some (.cells #[c, d] u (0, 0)) ∧ Below W0.heap.size W0 wx
theorem four_of {W0 : World} {n m : Nat} {a b c d : Value} {t u : TypeId} (h : W0.heap[n]? = some (.cells #[a, b] t (0, 0))) (g : W0.heap[m]? = some (.cells #[c, d] u (0, 0))) (W : World) (hB : Below W0.heap.size W0 W) :
    W.cell? ⟨n, 0, none⟩ = some a ∧ W.cell? ⟨n, 1, none⟩ = some b ∧ W.cell? ⟨m, 0, none⟩ = some c ∧ W.cell? ⟨m, 1, none⟩ = some d := by
  have h' := blk_keep hB h
  have g' := blk_keep hB g
  exact ⟨row_of h' 0, row_of h' 1, row_of g' 0, row_of g' 1⟩
end Go.Proofs.YtlgmofjjjhbgkaaGreat
namespace Go.Proofs.YtlgmofjjjhbgkaaGreat
open Go.RowKit
theorem blkP (W : World) (g : Nat) (u v : Value) (x : Obj) : (((W.setCell ⟨g, 0, none⟩ u).setCell ⟨g, 1, none⟩ v).alloc x).heap[W.heap.size]? = some x := blkA _ _ (by simp [World.setCell])
end Go.Proofs.YtlgmofjjjhbgkaaGreat
namespace Go.Proofs.YtlgmofjjjhbgkaaGreat
open Go.RowKit
theorem own_same {w w' : World} {b g n c : Nat} {e : TypeId} {size : Nat} {xs : List Value} (h : w.ownsRow b e size (.slice (some ⟨g, 0, none⟩) n c) n xs) (hk : ∀ x, w.heap[g]? = some x → w'.heap[g]? = some x) : w'.ownsRow b e size (.slice (some ⟨g, 0, none⟩) n c) n xs := by
  refine ⟨h.1, ?_⟩
  rcases h.2 with ⟨h0, _⟩ | ⟨g2, cap, cur, hv, hg, h1, h2⟩
  · cases h0
  · injection hv with e1 e2 e3
    injection e1 with e1
    injection e1 with e1
    subst e1
    exact .inr ⟨g, cap, cur, by rw [e3], hg, hk _ h1, h2⟩
/-- Three cells are stored into a block. -/
theorem put3 {W WF : World} {n : Nat} {t : TypeId} {d0 d1 d2 : Value} (h : W.heap[n]? = some (.cells #[d0, d1, d2] t (0, 0))) (v0 v1 v2 : Value) (hW : WF = ((W.setCell ⟨n, 0, none⟩ v0).setCell ⟨n, 1, none⟩ v1).setCell ⟨n, 2, none⟩ v2) :
    WF.heap[n]? = some (.cells #[v0, v1, v2] t (0, 0)) ∧ (∀ (b : Nat) (x : Obj), b ≠ n → W.heap[b]? = some x → WF.heap[b]? = some x) ∧ (∀ B, B ≤ n → Below B W WF) ∧ WF.heap.size = W.heap.size := by
  subst hW
  refine ⟨by simp [World.setCell, Array.getElem?_modify, h], fun b x hb hx => blk_set (blk_set (blk_set hx hb) hb) hb, fun B hB => ?_, by simp [World.setCell]⟩
  exact (((Below.refl _ W).setCell (p := ⟨n, 0, none⟩) hB v0).setCell (p := ⟨n, 1, none⟩) hB v1).setCell (p := ⟨n, 2, none⟩) hB v2
/-- The cells of a row of Itvs. -/
def cellsOf (xs : List (Int × Int)) : List Value := xs.flatMap fun p => [.int .i64 p.1, .int .i64 p.2]
/-- An Elem of one's own: its numbers lie in a row that none other holds. -/
def ElemAt (W : World) (base : Nat) (t : TypeId) (g cap : Nat) (xs : List (Int × Int)) : Prop := W.ownsRow base t 2 (.slice (some ⟨g, 0, none⟩) xs.length cap) xs.length (cellsOf xs)
end Go.Proofs.YtlgmofjjjhbgkaaGreat
namespace Go.Proofs.YtlgmofjjjhbgkaaGreat
open Go.RowKit
theorem run_copy_sz (P : Program) (w : World) (dT sT ty elem : TypeId) (g o dLen dCap : Nat) (a : Addr) (sLen sCap m sz : Nat) (cur : Array Value) (t : TypeId) (cs : List Value)
    (hu : P.underlying dT = some (.slice elem)) (hs : (P.info? elem).map (·.size) = some sz)
    (hg : w.heap[g]? = some (.cells cur t (0, 0))) (hm : m = Nat.min sLen dLen) (hn : cs.length = m * sz)
    (hsrc : ∀ j v, cs[j]? = some v → w.cell? (a.add j) = some v) (hfit : o + cs.length ≤ cur.size) (h1 : ∀ v ∈ cs, v.oneCell' = true) :
    (Builtin.copy_ #[dT, sT] ty #[.slice (some ⟨g, o, none⟩) dLen dCap, .slice (some a) sLen sCap]).run P w =
      .ok (goInt m) (w.setRow g (cur.toList.take o ++ cs ++ cur.toList.drop (o + cs.length)).toArray) := by
  have hl := run_loadCells_list (P := P) w a cs hsrc
  have hst := run_storeCells_at P g o t cs 0 cur w hg (by simpa using hfit) h1
  rw [hn] at hl
  cases hq : P.info? elem with
  | none => simp [hq] at hs
  | some i =>
    have hi : i.size = sz := by simpa [hq] using hs
    simp [Builtin.copy_, run_underlying hu, Builtin.lenOf, Builtin.firstCells, sizeOf, typeInfo, hq, hi, ← hm, hl, hst]
theorem wpList_copy_sz {P : Program} {w : World} {ops : Array Oper} {rest : List Oper} {o : Oper} {a : Act} {Q : Exit → Act → World → Prop} (hgd : o.guard = none) (d s : Operand) (dT sT : TypeId)
    (ho : o.op = .call { callee := .builtin .copy, args := #[d, s], argTypes := #[dT, sT] }) (elem : TypeId) (hu : P.underlying dT = some (.slice elem)) (sz : Nat) (hsz : (P.info? elem).map (·.size) = some sz)
    (g off dLen dCap : Nat) (ad : Addr) (sLen sCap m : Nat) (hd : a.eval d = .slice (some ⟨g, off, none⟩) dLen dCap) (hs : a.eval s = .slice (some ad) sLen sCap)
    (cur : Array Value) (t : TypeId) (hg : w.heap[g]? = some (.cells cur t (0, 0))) (cs : List Value) (hm : m = Nat.min sLen dLen) (hn : cs.length = m * sz)
    (hsrc : ∀ j v, cs[j]? = some v → w.cell? (ad.add j) = some v) (hfit : off + cs.length ≤ cur.size) (h1 : ∀ v ∈ cs, v.oneCell' = true)
    (new : Array Value) (hnew : new = (cur.toList.take off ++ cs ++ cur.toList.drop (off + cs.length)).toArray) (_hlt : g < w.heap.size)
    (h : ∀ w', w'.heap[g]? = some (.cells new t (0, 0)) → Below g w w' → wpList P ops Q rest (a.put o.dst (goInt m)) w') : wpList P ops Q (o :: rest) a w := by
  refine wpList_plain hgd fun K hK => ?_
  have hrun := run_copy_sz P w dT sT o.type elem g off dLen dCap ad sLen sCap m sz cur t cs hu hsz hg hm hn hsrc hfit h1
  unfold Oper.wp
  simp [execOp, ho, resolve, invoke, builtin, hd, hs, hrun, Result.andThen]
  exact hK _ _ (h _ (by rw [hnew]; simpa using setRow_heap w g cur _ t _ hg) (below_setRow (Below.refl _ w) (Nat.le_refl _) _))
theorem step_copy_sz {P : Program} {ops : Array Oper} {o : Oper} {a : Act} {w : World} {K : Act → World → Prop} {Q : Exit → Act → World → Prop} {E : Prop} (hgd : o.guard = none) (d s : Operand) (dT sT : TypeId)
    (ho : o.op = .call { callee := .builtin .copy, args := #[d, s], argTypes := #[dT, sT] }) (elem : TypeId) (hu : P.underlying dT = some (.slice elem)) (sz : Nat) (hsz : (P.info? elem).map (·.size) = some sz)
    (g off dLen dCap : Nat) (ad : Addr) (sLen sCap m : Nat) (hd : a.eval d = .slice (some ⟨g, off, none⟩) dLen dCap) (hs : a.eval s = .slice (some ad) sLen sCap)
    (cur : Array Value) (t : TypeId) (hg : w.heap[g]? = some (.cells cur t (0, 0))) (cs : List Value) (hm : m = Nat.min sLen dLen) (hn : cs.length = m * sz)
    (hsrc : ∀ j v, cs[j]? = some v → w.cell? (ad.add j) = some v) (hfit : off + cs.length ≤ cur.size) (h1 : ∀ v ∈ cs, v.oneCell' = true)
    (new : Array Value) (hnew : new = (cur.toList.take off ++ cs ++ cur.toList.drop (off + cs.length)).toArray) (_hlt : g < w.heap.size)
    (h : ∀ w', w'.heap[g]? = some (.cells new t (0, 0)) → Below g w w' → K (a.put o.dst (goInt m)) w') :
    if Region.wanted o (yielded ops a.tmps) = true then Oper.wp P o a w K Q else E := by
  have hw : Region.wanted o (yielded ops a.tmps) = true := by simp [Region.wanted, hgd]
  rw [if_pos hw]
  have hrun := run_copy_sz P w dT sT o.type elem g off dLen dCap ad sLen sCap m sz cur t cs hu hsz hg hm hn hsrc hfit h1
  unfold Oper.wp
  simp [execOp, ho, resolve, invoke, builtin, hd, hs, hrun, Result.andThen]
  exact h _ (by rw [hnew]; simpa using setRow_heap w g cur _ t _ hg) (below_setRow (Below.refl _ w) (Nat.le_refl _) _)
theorem size_itv : (Tryz.prog.info? 53).map (·.size) = some 2 := by kernel_rfl
end Go.Proofs.YtlgmofjjjhbgkaaGreat
namespace Go.Proofs.YtlgmofjjjhbgkaaGreat
open Go.RowKit
/-- A row of so many empty Itvs, made anew. -/
def Nones (w : World) (n : Nat) (e : Ending) (w' : World) : Prop := ∃ g, e = .returned (.slice (some ⟨g, 0, none⟩) n n) ∧ ElemAt w' w.heap.size 53 g n (List.replicate n (1, 0)) ∧ Below w.heap.size w w' 
theorem mul_1 (w : World) : Calls Tryz.prog 69 #[.int .u64 1, .int .u64 1] w fun e w' => e = .returned (.tuple #[.int .u64 0, .int .u64 1]) ∧ w = w' := by
  go_enter Tryz.func69, Tryz.ntmps69
  go_wp2
  go_ret2
  exact ⟨by kernel_rfl, rfl⟩
set_option maxRecDepth 100000 in
set_option maxHeartbeats 2000000 in
theorem repeat_1 (b : Nat) (w : World) (hb : w.heap[b]? = some (.cells #[.int .i64 1, .int .i64 0] 53 (0, 0))) :
    Calls Tryz.prog 36 #[.slice (some ⟨b, 0, none⟩) 1 1, .int .i64 1] w (Nones w 1) := by
  have hmk : ∀ w, (Instr.makeSlice 40 (.int .i64 1) (.int .i64 1)).run Tryz.prog w = .ok (.slice (some ⟨w.heap.size, 0, none⟩) 1 1) (w.alloc (.cells #[.int .i64 0, .int .i64 0] 53)) := fun _ => by kernel_rfl
  go_enter Tryz.func36, Tryz.ntmps36
  go_wp2_with fail
  refine (mul_1 _).mono ?_
  rintro e w' ⟨rfl, rfl⟩
  go_upto_region 7 with fail
  refine wp_world (fun W => W.heap[b]? = some (.cells #[.int .i64 1, .int .i64 0] 53 (0, 0)) ∧ W.heap[w.heap.size]? = some (.cells #[.int .i64 0, .int .i64 0] 53 (0, 0)) ∧ Below w.heap.size w W) ⟨blkUp hb _, blkA _ _ rfl, (Below.refl _ _).alloc (Nat.le_refl _) _⟩ ?_
  clear hmk
  rintro w1 ⟨kb, k0, hB⟩
  have sb : ∀ (j : Nat) (v : Value), ([.int .i64 1, .int .i64 0] : List Value)[j]? = some v → w1.cell? ((⟨b, 0, none⟩ : Addr).add j) = some v := fun j v h => by
    match j, h with
    | 0, h => exact (row_of kb 0).trans h
    | 1, h => exact (row_of kb 1).trans h
    | j + 2, h => simp at h
  replace sb := Lib.hid sb
  go_wp2_with (refine wpList_copy_sz rfl _ _ _ _ rfl 53 Tryz.underlying40 2 size_itv w.heap.size 0 1 1 ⟨b, 0, none⟩ 1 1 1 (by rfl) (by rfl) _ _ k0 [.int .i64 1, .int .i64 0] (by rfl) (by rfl) sb.out (by simp) (by simp [Value.oneCell']) #[.int .i64 1, .int .i64 0] (by rfl) (blk_lt k0) ?_; intro w2 k2 hb2)
  replace hB := hB.trans hb2
  clear hb2 k0 kb sb
  refine wp_loop_rounds 1 ?_
  rw [rounds_succ]
  go_wp2_with fail
  go_ret
  exact ⟨w.heap.size, rfl, ⟨by rfl, .inr ⟨w.heap.size, 1, _, rfl, Nat.le_refl _, k2, Nat.le_refl _, by unfold maxLen; decide, by rfl, by rfl⟩⟩, hB⟩
theorem mul_2 (w : World) : Calls Tryz.prog 69 #[.int .u64 1, .int .u64 2] w fun e w' => e = .returned (.tuple #[.int .u64 0, .int .u64 2]) ∧ w = w' := by
  go_enter Tryz.func69, Tryz.ntmps69
  go_wp2
  go_ret2
  exact ⟨by kernel_rfl, rfl⟩
set_option maxRecDepth 100000 in
set_option maxHeartbeats 2000000 in
theorem repeat_2 (b : Nat) (w : World) (hb : w.heap[b]? = some (.cells #[.int .i64 1, .int .i64 0] 53 (0, 0))) :
    Calls Tryz.prog 36 #[.slice (some ⟨b, 0, none⟩) 1 1, .int .i64 2] w (Nones w 2) := by
  have hmk : ∀ w, (Instr.makeSlice 40 (.int .i64 2) (.int .i64 2)).run Tryz.prog w = .ok (.slice (some ⟨w.heap.size, 0, none⟩) 2 2) (w.alloc (.cells #[.int .i64 0, .int .i64 0, .int .i64 0, .int .i64 0] 53)) := fun _ => by kernel_rfl
  go_enter Tryz.func36, Tryz.ntmps36
  go_wp2_with fail
  refine (mul_2 _).mono ?_
  rintro e w' ⟨rfl, rfl⟩
  go_upto_region 7 with fail
  refine wp_world (fun W => W.heap[b]? = some (.cells #[.int .i64 1, .int .i64 0] 53 (0, 0)) ∧ W.heap[w.heap.size]? = some (.cells #[.int .i64 0, .int .i64 0, .int .i64 0, .int .i64 0] 53 (0, 0)) ∧ Below w.heap.size w W) ⟨blkUp hb _, blkA _ _ rfl, (Below.refl _ _).alloc (Nat.le_refl _) _⟩ ?_
  clear hmk
  rintro w1 ⟨kb, k0, hB⟩
  have sb : ∀ (j : Nat) (v : Value), ([.int .i64 1, .int .i64 0] : List Value)[j]? = some v → w1.cell? ((⟨b, 0, none⟩ : Addr).add j) = some v := fun j v h => by
    match j, h with
    | 0, h => exact (row_of kb 0).trans h
    | 1, h => exact (row_of kb 1).trans h
    | j + 2, h => simp at h
  replace sb := Lib.hid sb
  go_wp2_with (refine wpList_copy_sz rfl _ _ _ _ rfl 53 Tryz.underlying40 2 size_itv w.heap.size 0 2 2 ⟨b, 0, none⟩ 1 1 1 (by rfl) (by rfl) _ _ k0 [.int .i64 1, .int .i64 0] (by rfl) (by rfl) sb.out (by simp) (by simp [Value.oneCell']) #[.int .i64 1, .int .i64 0, .int .i64 0, .int .i64 0] (by rfl) (blk_lt k0) ?_; intro w2 k2 hb2)
  replace hB := hB.trans hb2
  clear hb2 k0 kb sb
  refine wp_loop_rounds 2 ?_
  rw [rounds_succ]
  go_upto_region 9 with fail
  have kd2 : w2.drew.heap[w.heap.size]? = some (.cells #[.int .i64 1, .int .i64 0, .int .i64 0, .int .i64 0] 53 (0, 0)) := k2
  have sc : ∀ (j : Nat) (v : Value), ([.int .i64 1, .int .i64 0] : List Value)[j]? = some v → w2.drew.cell? ((⟨w.heap.size, 0, none⟩ : Addr).add j) = some v := fun j v h => by
    match j, h with
    | 0, h => exact (row_of kd2 0).trans h
    | 1, h => exact (row_of kd2 1).trans h
    | j + 2, h => simp at h
  replace sc := Lib.hid sc
  go_region_law (first
    | (refine step_copy_sz (by rfl) _ _ _ _ (by rfl) 53 Tryz.underlying40 2 size_itv w.heap.size 2 1 1 ⟨w.heap.size, 0, none⟩ 1 2 1 (by go_simp) (by go_simp) _ _ kd2 [.int .i64 1, .int .i64 0] (by rfl) (by rfl) sc.out (by simp) (by simp [Value.oneCell']) #[.int .i64 1, .int .i64 0, .int .i64 1, .int .i64 0] (by rfl) (blk_lt kd2) ?_; intro w3 k3 hb3))
  replace hB := (hB.drew).trans hb3
  clear hb3 k2 sc kd2
  go_wp2_with fail
  rw [rounds_succ]
  go_wp2_with fail
  go_ret
  exact ⟨w.heap.size, rfl, ⟨by rfl, .inr ⟨w.heap.size, 2, _, rfl, Nat.le_refl _, k3, Nat.le_refl _, by unfold maxLen; decide, by rfl, by rfl⟩⟩, hB⟩
theorem mul_3 (w : World) : Calls Tryz.prog 69 #[.int .u64 1, .int .u64 3] w fun e w' => e = .returned (.tuple #[.int .u64 0, .int .u64 3]) ∧ w = w' := by
  go_enter Tryz.func69, Tryz.ntmps69
  go_wp2
  go_ret2
  exact ⟨by kernel_rfl, rfl⟩
set_option maxRecDepth 100000 in
set_option maxHeartbeats 2000000 in
theorem repeat_3 (b : Nat) (w : World) (hb : w.heap[b]? = some (.cells #[.int .i64 1, .int .i64 0] 53 (0, 0))) :
    Calls Tryz.prog 36 #[.slice (some ⟨b, 0, none⟩) 1 1, .int .i64 3] w (Nones w 3) := by
  have hmk : ∀ w, (Instr.makeSlice 40 (.int .i64 3) (.int .i64 3)).run Tryz.prog w = .ok (.slice (some ⟨w.heap.size, 0, none⟩) 3 3) (w.alloc (.cells #[.int .i64 0, .int .i64 0, .int .i64 0, .int .i64 0, .int .i64 0, .int .i64 0] 53)) := fun _ => by kernel_rfl
  go_enter Tryz.func36, Tryz.ntmps36
  go_wp2_with fail
  refine (mul_3 _).mono ?_
  rintro e w' ⟨rfl, rfl⟩
  go_upto_region 7 with fail
  refine wp_world (fun W => W.heap[b]? = some (.cells #[.int .i64 1, .int .i64 0] 53 (0, 0)) ∧ W.heap[w.heap.size]? = some (.cells #[.int .i64 0, .int .i64 0, .int .i64 0, .int .i64 0, .int .i64 0, .int .i64 0] 53 (0, 0)) ∧ Below w.heap.size w W) ⟨blkUp hb _, blkA _ _ rfl, (Below.refl _ _).alloc (Nat.le_refl _) _⟩ ?_
  clear hmk
  rintro w1 ⟨kb, k0, hB⟩
  have sb : ∀ (j : Nat) (v : Value), ([.int .i64 1, .int .i64 0] : List Value)[j]? = some v → w1.cell? ((⟨b, 0, none⟩ : Addr).add j) = some v := fun j v h => by
    match j, h with
    | 0, h => exact (row_of kb 0).trans h
    | 1, h => exact (row_of kb 1).trans h
    | j + 2, h => simp at h
  replace sb := Lib.hid sb
  go_wp2_with (refine wpList_copy_sz rfl _ _ _ _ rfl 53 Tryz.underlying40 2 size_itv w.heap.size 0 3 3 ⟨b, 0, none⟩ 1 1 1 (by rfl) (by rfl) _ _ k0 [.int .i64 1, .int .i64 0] (by rfl) (by rfl) sb.out (by simp) (by simp [Value.oneCell']) #[.int .i64 1, .int .i64 0, .int .i64 0, .int .i64 0, .int .i64 0, .int .i64 0] (by rfl) (blk_lt k0) ?_; intro w2 k2 hb2)
  replace hB := hB.trans hb2
  clear hb2 k0 kb sb
  refine wp_loop_rounds 3 ?_
  rw [rounds_succ]
  go_upto_region 9 with fail
  have kd2 : w2.drew.heap[w.heap.size]? = some (.cells #[.int .i64 1, .int .i64 0, .int .i64 0, .int .i64 0, .int .i64 0, .int .i64 0] 53 (0, 0)) := k2
  have sc : ∀ (j : Nat) (v : Value), ([.int .i64 1, .int .i64 0] : List Value)[j]? = some v → w2.drew.cell? ((⟨w.heap.size, 0, none⟩ : Addr).add j) = some v := fun j v h => by
    match j, h with
    | 0, h => exact (row_of kd2 0).trans h
    | 1, h => exact (row_of kd2 1).trans h
    | j + 2, h => simp at h
  replace sc := Lib.hid sc
  go_region_law (first
    | (refine step_copy_sz (by rfl) _ _ _ _ (by rfl) 53 Tryz.underlying40 2 size_itv w.heap.size 2 2 2 ⟨w.heap.size, 0, none⟩ 1 3 1 (by go_simp) (by go_simp) _ _ kd2 [.int .i64 1, .int .i64 0] (by rfl) (by rfl) sc.out (by simp) (by simp [Value.oneCell']) #[.int .i64 1, .int .i64 0, .int .i64 1, .int .i64 0, .int .i64 0, .int .i64 0] (by rfl) (blk_lt kd2) ?_; intro w3 k3 hb3))
  replace hB := (hB.drew).trans hb3
  clear hb3 k2 sc kd2
  go_wp2_with fail
  rw [rounds_succ]
  go_upto_region 9 with fail
  have kd3 : w3.drew.heap[w.heap.size]? = some (.cells #[.int .i64 1, .int .i64 0, .int .i64 1, .int .i64 0, .int .i64 0, .int .i64 0] 53 (0, 0)) := k3
  have sc : ∀ (j : Nat) (v : Value), ([.int .i64 1, .int .i64 0] : List Value)[j]? = some v → w3.drew.cell? ((⟨w.heap.size, 0, none⟩ : Addr).add j) = some v := fun j v h => by
    match j, h with
    | 0, h => exact (row_of kd3 0).trans h
    | 1, h => exact (row_of kd3 1).trans h
    | j + 2, h => simp at h
  replace sc := Lib.hid sc
  go_region_law (first
    | (refine step_copy_sz (by rfl) _ _ _ _ (by rfl) 53 Tryz.underlying40 2 size_itv w.heap.size 4 1 1 ⟨w.heap.size, 0, none⟩ 2 3 1 (by go_simp) (by go_simp) _ _ kd3 [.int .i64 1, .int .i64 0] (by rfl) (by rfl) sc.out (by simp) (by simp [Value.oneCell']) #[.int .i64 1, .int .i64 0, .int .i64 1, .int .i64 0, .int .i64 1, .int .i64 0] (by rfl) (blk_lt kd3) ?_; intro w4 k4 hb4))
  replace hB := (hB.drew).trans hb4
  clear hb4 k3 sc kd3
  go_wp2_with fail
  rw [rounds_succ]
  go_wp2_with fail
  go_ret
  exact ⟨w.heap.size, rfl, ⟨by rfl, .inr ⟨w.heap.size, 3, _, rfl, Nat.le_refl _, k4, Nat.le_refl _, by unfold maxLen; decide, by rfl, by rfl⟩⟩, hB⟩
theorem mul_4 (w : World) : Calls Tryz.prog 69 #[.int .u64 1, .int .u64 4] w fun e w' => e = .returned (.tuple #[.int .u64 0, .int .u64 4]) ∧ w = w' := by
  go_enter Tryz.func69, Tryz.ntmps69
  go_wp2
  go_ret2
  exact ⟨by kernel_rfl, rfl⟩
set_option maxRecDepth 100000 in
set_option maxHeartbeats 2000000 in
theorem repeat_4 (b : Nat) (w : World) (hb : w.heap[b]? = some (.cells #[.int .i64 1, .int .i64 0] 53 (0, 0))) :
    Calls Tryz.prog 36 #[.slice (some ⟨b, 0, none⟩) 1 1, .int .i64 4] w (Nones w 4) := by
  have hmk : ∀ w, (Instr.makeSlice 40 (.int .i64 4) (.int .i64 4)).run Tryz.prog w = .ok (.slice (some ⟨w.heap.size, 0, none⟩) 4 4) (w.alloc (.cells #[.int .i64 0, .int .i64 0, .int .i64 0, .int .i64 0, .int .i64 0, .int .i64 0, .int .i64 0, .int .i64 0] 53)) := fun _ => by kernel_rfl
  go_enter Tryz.func36, Tryz.ntmps36
  go_wp2_with fail
  refine (mul_4 _).mono ?_
  rintro e w' ⟨rfl, rfl⟩
  go_upto_region 7 with fail
  refine wp_world (fun W => W.heap[b]? = some (.cells #[.int .i64 1, .int .i64 0] 53 (0, 0)) ∧ W.heap[w.heap.size]? = some (.cells #[.int .i64 0, .int .i64 0, .int .i64 0, .int .i64 0, .int .i64 0, .int .i64 0, .int .i64 0, .int .i64 0] 53 (0, 0)) ∧ Below w.heap.size w W) ⟨blkUp hb _, blkA _ _ rfl, (Below.refl _ _).alloc (Nat.le_refl _) _⟩ ?_
  clear hmk
  rintro w1 ⟨kb, k0, hB⟩
  have sb : ∀ (j : Nat) (v : Value), ([.int .i64 1, .int .i64 0] : List Value)[j]? = some v → w1.cell? ((⟨b, 0, none⟩ : Addr).add j) = some v := fun j v h => by
    match j, h with
    | 0, h => exact (row_of kb 0).trans h
    | 1, h => exact (row_of kb 1).trans h
    | j + 2, h => simp at h
  replace sb := Lib.hid sb
  go_wp2_with (refine wpList_copy_sz rfl _ _ _ _ rfl 53 Tryz.underlying40 2 size_itv w.heap.size 0 4 4 ⟨b, 0, none⟩ 1 1 1 (by rfl) (by rfl) _ _ k0 [.int .i64 1, .int .i64 0] (by rfl) (by rfl) sb.out (by simp) (by simp [Value.oneCell']) #[.int .i64 1, .int .i64 0, .int .i64 0, .int .i64 0, .int .i64 0, .int .i64 0, .int .i64 0, .int .i64 0] (by rfl) (blk_lt k0) ?_; intro w2 k2 hb2)
  replace hB := hB.trans hb2
  clear hb2 k0 kb sb
  refine wp_loop_rounds 3 ?_
  rw [rounds_succ]
  go_upto_region 9 with fail
  have kd2 : w2.drew.heap[w.heap.size]? = some (.cells #[.int .i64 1, .int .i64 0, .int .i64 0, .int .i64 0, .int .i64 0, .int .i64 0, .int .i64 0, .int .i64 0] 53 (0, 0)) := k2
  have sc : ∀ (j : Nat) (v : Value), ([.int .i64 1, .int .i64 0] : List Value)[j]? = some v → w2.drew.cell? ((⟨w.heap.size, 0, none⟩ : Addr).add j) = some v := fun j v h => by
    match j, h with
    | 0, h => exact (row_of kd2 0).trans h
    | 1, h => exact (row_of kd2 1).trans h
    | j + 2, h => simp at h
  replace sc := Lib.hid sc
  go_region_law (first
    | (refine step_copy_sz (by rfl) _ _ _ _ (by rfl) 53 Tryz.underlying40 2 size_itv w.heap.size 2 3 3 ⟨w.heap.size, 0, none⟩ 1 4 1 (by go_simp) (by go_simp) _ _ kd2 [.int .i64 1, .int .i64 0] (by rfl) (by rfl) sc.out (by simp) (by simp [Value.oneCell']) #[.int .i64 1, .int .i64 0, .int .i64 1, .int .i64 0, .int .i64 0, .int .i64 0, .int .i64 0, .int .i64 0] (by rfl) (blk_lt kd2) ?_; intro w3 k3 hb3))
  replace hB := (hB.drew).trans hb3
  clear hb3 k2 sc kd2
  go_wp2_with fail
  rw [rounds_succ]
  go_upto_region 9 with fail
  have kd3 : w3.drew.heap[w.heap.size]? = some (.cells #[.int .i64 1, .int .i64 0, .int .i64 1, .int .i64 0, .int .i64 0, .int .i64 0, .int .i64 0, .int .i64 0] 53 (0, 0)) := k3
  have sc : ∀ (j : Nat) (v : Value), ([.int .i64 1, .int .i64 0, .int .i64 1, .int .i64 0] : List Value)[j]? = some v → w3.drew.cell? ((⟨w.heap.size, 0, none⟩ : Addr).add j) = some v := fun j v h => by
    match j, h with
    | 0, h => exact (row_of kd3 0).trans h
    | 1, h => exact (row_of kd3 1).trans h
    | 2, h => exact (row_of kd3 2).trans h
    | 3, h => exact (row_of kd3 3).trans h
    | j + 4, h => simp at h
  replace sc := Lib.hid sc
  go_region_law (first
    | (refine step_copy_sz (by rfl) _ _ _ _ (by rfl) 53 Tryz.underlying40 2 size_itv w.heap.size 4 2 2 ⟨w.heap.size, 0, none⟩ 2 4 2 (by go_simp) (by go_simp) _ _ kd3 [.int .i64 1, .int .i64 0, .int .i64 1, .int .i64 0] (by rfl) (by rfl) sc.out (by simp) (by simp [Value.oneCell']) #[.int .i64 1, .int .i64 0, .int .i64 1, .int .i64 0, .int .i64 1, .int .i64 0, .int .i64 1, .int .i64 0] (by rfl) (blk_lt kd3) ?_; intro w4 k4 hb4))
  replace hB := (hB.drew).trans hb4
  clear hb4 k3 sc kd3
  go_wp2_with fail
  rw [rounds_succ]
  go_wp2_with fail
  go_ret
  exact ⟨w.heap.size, rfl, ⟨by rfl, .inr ⟨w.heap.size, 4, _, rfl, Nat.le_refl _, k4, Nat.le_refl _, by unfold maxLen; decide, by rfl, by rfl⟩⟩, hB⟩
end Go.Proofs.YtlgmofjjjhbgkaaGreat
