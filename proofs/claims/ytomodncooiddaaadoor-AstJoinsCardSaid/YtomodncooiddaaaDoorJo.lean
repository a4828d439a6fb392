/-
  The laws' copies of systems.
-/
import Derived.Test.YtomodncooiddaaaDoorJn
namespace Go.Proofs.YtomodncooiddaaaDoor.Sx
def cellId (s : St) (t j : Nat) : Nat := match look s.hp (idOf s t) with | some (.own _ l) => (match l[j]? with | some (.c (.osl _ id _ _)) => id | _ => 0) | _ => 0
end Go.Proofs.YtomodncooiddaaaDoor.Sx
namespace Go.Proofs.YtomodncooiddaaaDoor.Sx.Z
open Go.RowKit
def lSyr : AP := .agg [.c (.rows 53), .c (.rows 58), .c (.rows 26)]
def nD (d : D) : D := .l d.rows
theorem nD_app (d : D) : ((D.l []).app d).sub 0 (0 + (0 + d.len)) = nD d := by
  rw [Nat.zero_add, Nat.zero_add]
  show D.l (List.drop 0 (List.take d.rows.length ([] ++ d.rows))) = D.l d.rows
  rw [List.nil_append, List.take_length]; rfl
theorem app_le (d : D) : 0 + (0 + d.len) ≤ ((D.l []).app d).len := by
  rw [D.app_len]
  show 0 + (0 + d.len) ≤ 0 + d.len
  omega
theorem takeAll (n : Nat) (f : Nat → List D) : List.drop 0 (List.take (0 + n) ((List.range n).map f)) = (List.range n).map f := by
  rw [Nat.zero_add, List.drop_zero, List.take_of_length_le (by simp)]
def chR (ch : D) (i : Nat) : List D := [D.s (ch.el i 0).toS, D.i (ch.el i 1).toI, D.i (ch.el i 2).toI, D.s (ch.el i 3).toS, D.s (ch.el i 4).toS, nD (ch.el i 5)]
def mvR (mv : D) (i : Nat) : List D := [D.i (mv.el i 0).toI, D.s (mv.el i 1).toS, D.i (mv.el i 2).toI]
def ruR (ru : D) (i : Nat) : List D := [D.s (ru.el i 0).toS, cpTo (ru.el i 1).len (mvR (ru.el i 1))]
def prR (pr : D) (i : Nat) : List D := [D.s (pr.el i 0).toS, nD (pr.el i 1), cpB (pr.el i 2)]
def cpC (ch : D) : D := cpTo ch.len (chR ch)
def cpU (ru : D) : D := cpTo ru.len (ruR ru)
def cpP (pr : D) : D := cpTo pr.len (prR pr)
/-- No row is too long. -/
structure SyS (ch ru pr : D) : Prop where
  c : ch.len ≤ 1000000
  ct : ∀ i, i < ch.len → (ch.el i 5).len ≤ 1000000
  r : ru.len ≤ 1000000
  rm : ∀ i, i < ru.len → (ru.el i 1).len ≤ 1000000
  p : pr.len ≤ 1000000
  pv : ∀ i, i < pr.len → (pr.el i 1).len ≤ 1000000
  pb : ∀ i, i < pr.len → bS (pr.el i 2)
noncomputable def ycpS : FSpec := fun ds _ => match ds with
  | [.d ch, .d ru, .d pr] => some { val := .one (.agg [.c (.rows 108 (cpC ch)), .c (.rows 111 (cpU ru)), .c (.rows 116 (cpP pr))]), vc := [SyS ch ru pr] }
  | _ => none
noncomputable def ycpC : Con := con [lSyr] ycpS
theorem ycp_ok : ConOK Tryd.prog 9 ycpC := by
  refine fn_ob tt_ok mixed Tryd.func9 rfl (fun _ _ => by kernel_rfl) (A := fun ds => ⟨fun _ => Cons.of [(26, scpC)], fun k => match k, ds with | 3, [.d ch, .d ru, .d pr] => some { ι := Nat, pre := fun _ i => i ≤ ch.len, μ := fun i => ch.len + 1 - i, st := fun s i => famR s [(4, .one (.sc (.int .i64 (.sym ((i : Nat))))))] [1, 2, 3] [(idOf s 3, .own 47 ([.c (.osl 108 (s.nx - 1) (.lit 0) (.sym (i))), .c .nils, .c .nils])), (s.nx - 1, .orow 108 (cpTo (i) (chR ch)))] [1, 2] } | 8, [.d ch, .d ru, .d pr] => some { ι := Nat, pre := fun _ i => i ≤ ru.len, μ := fun i => ru.len + 1 - i, st := fun s i => famR s [(6, .one (.sc (.int .i64 (.sym ((i : Nat))))))] [1, 2, 3] [(idOf s 3, .own 47 ([.c (.osl 108 (cellId s 3 0) (.lit 0) (.sym (ch.len))), .c (.osl 111 (s.nx - 1) (.lit 0) (.sym (i))), .c .nils])), (cellId s 3 0, .orow 108 (cpTo (ch.len) (chR ch))), (s.nx - 1, .orow 111 (cpTo (i) (ruR ru)))] [1, 2] } | 12, [.d ch, .d ru, .d pr] => some { ι := Nat, pre := fun s q => q ≤ (ru.el (slotN s 6) 1).len ∧ True, μ := fun q => 1000001 - q, st := fun s q => famR s [(8, .one (.sc (.int .i64 (.sym ((q : Nat))))))] [1, 2, 3, 6, 7] [(idOf s 7, .own 111 ([.c (.raw (.string ((ru.el (slotN s 6) 0).toS))), .c (.osl 112 (s.nx - 1) (.lit 0) (.sym (q)))])), (s.nx - 1, .orow 112 (cpTo q (mvR (ru.el (slotN s 6) 1)))), (cellId s 3 0, .orow 108 (cpTo (ch.len) (chR ch))), (cellId s 3 1, .orow 111 (cpTo (slotN s 6) (ruR ru)))] [1, 2, 3] } | 18, [.d ch, .d ru, .d pr] => some { ι := Nat, pre := fun _ i => i ≤ pr.len, μ := fun i => pr.len + 1 - i, st := fun s i => famR s [(10, .one (.sc (.int .i64 (.sym ((i : Nat))))))] [1, 2, 3] [(idOf s 3, .own 47 ([.c (.osl 108 (cellId s 3 0) (.lit 0) (.sym (ch.len))), .c (.osl 111 (cellId s 3 1) (.lit 0) (.sym (ru.len))), .c (.osl 116 (s.nx - 1) (.lit 0) (.sym (i)))])), (cellId s 3 0, .orow 108 (cpTo (ch.len) (chR ch))), (cellId s 3 1, .orow 111 (cpTo (ru.len) (ruR ru))), (s.nx - 1, .orow 116 (cpTo (i) (prR pr)))] [1, 2] } | _, _ => none, fun _ => none⟩) (fun _ _ => (cons_cons scp_ok cons_nil)) (by kernel_rfl) ?_
  intro ds fr
  unfold ycpS
  split
  · rename_i ch ru pr
    refine kmp (q := SyS ch ru pr →
 (∃ (i : Nat),
 i.le ch.len ∧
 (0 : Int) = (↑i : Int) ∧ i = (0 : Nat) ∧ List.map (chR ch) (List.range i) = [] ∧ ch.rows = ch.rows ∧ ru.rows = ru.rows ∧ pr.rows = pr.rows) ∧
 ∀ (i : Nat),
 i.le ch.len →
 (decide ((↑i : Int) < (↑ch.len : Int)) = true →
 ((0 : Int) ≤ (↑i : Int) ∧ (↑i : Int) < (↑ch.len : Int)) ∧
 (0 : Nat) = (D.l []).len ∧
 ((0 : Nat) + (ch.el (↑i : Int).toNat ((0 : Nat) + (1 : Nat) + (1 : Nat) + (1 : Nat) + (1 : Nat) + (1 : Nat))).len) * (16 : Nat) ≤
 (140737488355328 : Nat) ∧
 (0 : Nat) + ((0 : Nat) + (ch.el (↑i : Int).toNat ((0 : Nat) + (1 : Nat) + (1 : Nat) + (1 : Nat) + (1 : Nat) + (1 : Nat))).len) ≤
 ((D.l []).app (ch.el (↑i : Int).toNat ((0 : Nat) + (1 : Nat) + (1 : Nat) + (1 : Nat) + (1 : Nat) + (1 : Nat)))).len ∧
 i = (cpTo i (chR ch)).len ∧
 (i +
 ((D.l
 [[D.s (ch.el (↑i : Int).toNat (0 : Nat)).toS, D.i (ch.el (↑i : Int).toNat ((0 : Nat) + (1 : Nat))).toI,
 D.i (ch.el (↑i : Int).toNat ((0 : Nat) + (1 : Nat) + (1 : Nat))).toI,
 D.s (ch.el (↑i : Int).toNat ((0 : Nat) + (1 : Nat) + (1 : Nat) + (1 : Nat))).toS,
 D.s (ch.el (↑i : Int).toNat ((0 : Nat) + (1 : Nat) + (1 : Nat) + (1 : Nat) + (1 : Nat))).toS,
 ((D.l []).app (ch.el (↑i : Int).toNat ((0 : Nat) + (1 : Nat) + (1 : Nat) + (1 : Nat) + (1 : Nat) + (1 : Nat)))).sub
 (0 : Nat)
 ((0 : Nat) +
 ((0 : Nat) +
 (ch.el (↑i : Int).toNat ((0 : Nat) + (1 : Nat) + (1 : Nat) + (1 : Nat) + (1 : Nat) + (1 : Nat))).len))]]).sub
 (0 : Nat) ((0 : Nat) + (1 : Nat))).len) *
 (88 : Nat) ≤
 (140737488355328 : Nat) ∧
 (0 : Nat) + (1 : Nat) ≤
 (D.l
 [[D.s (ch.el (↑i : Int).toNat (0 : Nat)).toS, D.i (ch.el (↑i : Int).toNat ((0 : Nat) + (1 : Nat))).toI,
 D.i (ch.el (↑i : Int).toNat ((0 : Nat) + (1 : Nat) + (1 : Nat))).toI,
 D.s (ch.el (↑i : Int).toNat ((0 : Nat) + (1 : Nat) + (1 : Nat) + (1 : Nat))).toS,
 D.s (ch.el (↑i : Int).toNat ((0 : Nat) + (1 : Nat) + (1 : Nat) + (1 : Nat) + (1 : Nat))).toS,
 ((D.l []).app (ch.el (↑i : Int).toNat ((0 : Nat) + (1 : Nat) + (1 : Nat) + (1 : Nat) + (1 : Nat) + (1 : Nat)))).sub
 (0 : Nat)
 ((0 : Nat) +
 ((0 : Nat) +
 (ch.el (↑i : Int).toNat ((0 : Nat) + (1 : Nat) + (1 : Nat) + (1 : Nat) + (1 : Nat) + (1 : Nat))).len))]]).len ∧
 ∃ (j : Nat),
 j.le ch.len ∧
 ch.len + (1 : Nat) - j < ch.len + (1 : Nat) - i ∧
 IntKind.i64.wrap ((↑i : Int) + (1 : Int)) = (↑j : Int) ∧
 i +
 ((D.l
 [[D.s (ch.el (↑i : Int).toNat (0 : Nat)).toS, D.i (ch.el (↑i : Int).toNat ((0 : Nat) + (1 : Nat))).toI,
 D.i (ch.el (↑i : Int).toNat ((0 : Nat) + (1 : Nat) + (1 : Nat))).toI,
 D.s (ch.el (↑i : Int).toNat ((0 : Nat) + (1 : Nat) + (1 : Nat) + (1 : Nat))).toS,
 D.s (ch.el (↑i : Int).toNat ((0 : Nat) + (1 : Nat) + (1 : Nat) + (1 : Nat) + (1 : Nat))).toS,
 ((D.l []).app
 (ch.el (↑i : Int).toNat ((0 : Nat) + (1 : Nat) + (1 : Nat) + (1 : Nat) + (1 : Nat) + (1 : Nat)))).sub
 (0 : Nat)
 ((0 : Nat) +
 ((0 : Nat) +
 (ch.el (↑i : Int).toNat
 ((0 : Nat) + (1 : Nat) + (1 : Nat) + (1 : Nat) + (1 : Nat) + (1 : Nat))).len))]]).sub
 (0 : Nat) ((0 : Nat) + (1 : Nat))).len =
 j ∧
 List.map (chR ch) (List.range i) ++
 List.drop (0 : Nat)
 (List.take ((0 : Nat) + (1 : Nat))
 [[D.s (ch.el (↑i : Int).toNat (0 : Nat)).toS, D.i (ch.el (↑i : Int).toNat ((0 : Nat) + (1 : Nat))).toI,
 D.i (ch.el (↑i : Int).toNat ((0 : Nat) + (1 : Nat) + (1 : Nat))).toI,
 D.s (ch.el (↑i : Int).toNat ((0 : Nat) + (1 : Nat) + (1 : Nat) + (1 : Nat))).toS,
 D.s (ch.el (↑i : Int).toNat ((0 : Nat) + (1 : Nat) + (1 : Nat) + (1 : Nat) + (1 : Nat))).toS,
 ((D.l []).app
 (ch.el (↑i : Int).toNat ((0 : Nat) + (1 : Nat) + (1 : Nat) + (1 : Nat) + (1 : Nat) + (1 : Nat)))).sub
 (0 : Nat)
 ((0 : Nat) +
 ((0 : Nat) +
 (ch.el (↑i : Int).toNat
 ((0 : Nat) + (1 : Nat) + (1 : Nat) + (1 : Nat) + (1 : Nat) + (1 : Nat))).len))]]) =
 List.map (chR ch) (List.range j) ∧
 ch.rows = ch.rows ∧ ru.rows = ru.rows ∧ pr.rows = pr.rows) ∧
 (decide ((↑i : Int) < (↑ch.len : Int)) = false →
 (∃ (i_1 : Nat),
 i_1.le ru.len ∧
 (0 : Int) = (↑i_1 : Int) ∧
 i = ch.len ∧
 i_1 = (0 : Nat) ∧
 List.map (chR ch) (List.range i) = List.map (chR ch) (List.range ch.len) ∧
 List.map (ruR ru) (List.range i_1) = [] ∧ ch.rows = ch.rows ∧ ru.rows = ru.rows ∧ pr.rows = pr.rows) ∧
 ∀ (i : Nat),
 i.le ru.len →
 (decide ((↑i : Int) < (↑ru.len : Int)) = true →
 ((0 : Int) ≤ (↑i : Int) ∧ (↑i : Int) < (↑ru.len : Int)) ∧
 (∃ (i_1 : Nat),
 (i_1 ≤ (ru.el i (1 : Nat)).len ∧ True) ∧
 (0 : Int) = (↑i_1 : Int) ∧
 (↑i : Int) = (↑i : Int) ∧
 Value.string (ru.el (↑i : Int).toNat ((0 : Nat) + (0 : Nat))).toS = Value.string (ru.el i (0 : Nat)).toS ∧
 i_1 = (0 : Nat) ∧
 List.map (mvR (ru.el i (1 : Nat))) (List.range i_1) = [] ∧
 List.map (chR ch) (List.range ch.len) = List.map (chR ch) (List.range ch.len) ∧
 List.map (ruR ru) (List.range i) = List.map (ruR ru) (List.range i) ∧
 ch.rows = ch.rows ∧ ru.rows = ru.rows ∧ pr.rows = pr.rows ∧ ch.len = ch.len ∧ i = i) ∧
 ∀ (i_1 : Nat),
 i_1 ≤ (ru.el i (1 : Nat)).len ∧ True →
 ((0 : Int) ≤ (↑i : Int) ∧ (↑i : Int) < (↑ru.len : Int)) ∧
 (decide ((↑i_1 : Int) < (↑(ru.el (↑i : Int).toNat ((0 : Nat) + (1 : Nat))).len : Int)) = true →
 ((0 : Int) ≤ (↑i : Int) ∧ (↑i : Int) < (↑ru.len : Int)) ∧
 ((0 : Int) ≤ (↑i_1 : Int) ∧ (↑i_1 : Int) < (↑(ru.el (↑i : Int).toNat ((0 : Nat) + (1 : Nat))).len : Int)) ∧
 i_1 = (cpTo i_1 (mvR (ru.el i (1 : Nat)))).len ∧
 (i_1 +
 ((D.l
 [[D.i ((ru.el (↑i : Int).toNat ((0 : Nat) + (1 : Nat))).el (↑i_1 : Int).toNat (0 : Nat)).toI,
 D.s
 ((ru.el (↑i : Int).toNat ((0 : Nat) + (1 : Nat))).el (↑i_1 : Int).toNat
 ((0 : Nat) + (1 : Nat))).toS,
 D.i
 ((ru.el (↑i : Int).toNat ((0 : Nat) + (1 : Nat))).el (↑i_1 : Int).toNat
 ((0 : Nat) + (1 : Nat) + (1 : Nat))).toI]]).sub
 (0 : Nat) ((0 : Nat) + (1 : Nat))).len) *
 (32 : Nat) ≤
 (140737488355328 : Nat) ∧
 (0 : Nat) + (1 : Nat) ≤
 (D.l
 [[D.i ((ru.el (↑i : Int).toNat ((0 : Nat) + (1 : Nat))).el (↑i_1 : Int).toNat (0 : Nat)).toI,
 D.s
 ((ru.el (↑i : Int).toNat ((0 : Nat) + (1 : Nat))).el (↑i_1 : Int).toNat ((0 : Nat) + (1 : Nat))).toS,
 D.i
 ((ru.el (↑i : Int).toNat ((0 : Nat) + (1 : Nat))).el (↑i_1 : Int).toNat
 ((0 : Nat) + (1 : Nat) + (1 : Nat))).toI]]).len ∧
 ∃ (j : Nat),
 (j ≤ (ru.el i (1 : Nat)).len ∧ True) ∧
 (1000001 : Nat) - j < (1000001 : Nat) - i_1 ∧
 IntKind.i64.wrap ((↑i_1 : Int) + (1 : Int)) = (↑j : Int) ∧
 (↑i : Int) = (↑i : Int) ∧
 Value.string (ru.el i (0 : Nat)).toS = Value.string (ru.el i (0 : Nat)).toS ∧
 i_1 +
 ((D.l
 [[D.i
 ((ru.el (↑i : Int).toNat ((0 : Nat) + (1 : Nat))).el (↑i_1 : Int).toNat
 (0 : Nat)).toI,
 D.s
 ((ru.el (↑i : Int).toNat ((0 : Nat) + (1 : Nat))).el (↑i_1 : Int).toNat
 ((0 : Nat) + (1 : Nat))).toS,
 D.i
 ((ru.el (↑i : Int).toNat ((0 : Nat) + (1 : Nat))).el (↑i_1 : Int).toNat
 ((0 : Nat) + (1 : Nat) + (1 : Nat))).toI]]).sub
 (0 : Nat) ((0 : Nat) + (1 : Nat))).len =
 j ∧
 List.map (mvR (ru.el i (1 : Nat))) (List.range i_1) ++
 List.drop (0 : Nat)
 (List.take ((0 : Nat) + (1 : Nat))
 [[D.i
 ((ru.el (↑i : Int).toNat ((0 : Nat) + (1 : Nat))).el (↑i_1 : Int).toNat
 (0 : Nat)).toI,
 D.s
 ((ru.el (↑i : Int).toNat ((0 : Nat) + (1 : Nat))).el (↑i_1 : Int).toNat
 ((0 : Nat) + (1 : Nat))).toS,
 D.i
 ((ru.el (↑i : Int).toNat ((0 : Nat) + (1 : Nat))).el (↑i_1 : Int).toNat
 ((0 : Nat) + (1 : Nat) + (1 : Nat))).toI]]) =
 List.map (mvR (ru.el i (1 : Nat))) (List.range j) ∧
 List.map (chR ch) (List.range ch.len) = List.map (chR ch) (List.range ch.len) ∧
 List.map (ruR ru) (List.range i) = List.map (ruR ru) (List.range i) ∧
 ch.rows = ch.rows ∧ ru.rows = ru.rows ∧ pr.rows = pr.rows ∧ ch.len = ch.len ∧ i = i) ∧
 (decide ((↑i_1 : Int) < (↑(ru.el (↑i : Int).toNat ((0 : Nat) + (1 : Nat))).len : Int)) = false →
 (0 : Nat) + i_1 ≤ (cpTo i_1 (mvR (ru.el i (1 : Nat)))).len ∧
 i = (cpTo i (ruR ru)).len ∧
 (i +
 ((D.l
 [[D.s (ru.el i (0 : Nat)).toS,
 (cpTo i_1 (mvR (ru.el i (1 : Nat)))).sub ((0 : Nat)) ((0 : Nat) + i_1)]]).sub
 (0 : Nat) ((0 : Nat) + (1 : Nat))).len) *
 (40 : Nat) ≤
 (140737488355328 : Nat) ∧
 (0 : Nat) + (1 : Nat) ≤
 (D.l
 [[D.s (ru.el i (0 : Nat)).toS, (cpTo i_1 (mvR (ru.el i (1 : Nat)))).sub ((0 : Nat)) ((0 : Nat) + i_1)]]).len ∧
 ∃ (j : Nat),
 j.le ru.len ∧
 ru.len + (1 : Nat) - j < ru.len + (1 : Nat) - i ∧
 IntKind.i64.wrap ((↑i : Int) + (1 : Int)) = (↑j : Int) ∧
 ch.len = ch.len ∧
 i +
 ((D.l
 [[D.s (ru.el i (0 : Nat)).toS,
 (cpTo i_1 (mvR (ru.el i (1 : Nat)))).sub ((0 : Nat)) ((0 : Nat) + i_1)]]).sub
 (0 : Nat) ((0 : Nat) + (1 : Nat))).len =
 j ∧
 List.map (chR ch) (List.range ch.len) = List.map (chR ch) (List.range ch.len) ∧
 List.map (ruR ru) (List.range i) ++
 List.drop (0 : Nat)
 (List.take ((0 : Nat) + (1 : Nat))
 [[D.s (ru.el i (0 : Nat)).toS,
 (cpTo i_1 (mvR (ru.el i (1 : Nat)))).sub ((0 : Nat)) ((0 : Nat) + i_1)]]) =
 List.map (ruR ru) (List.range j) ∧
 ch.rows = ch.rows ∧ ru.rows = ru.rows ∧ pr.rows = pr.rows)) ∧
 (decide ((↑i : Int) < (↑ru.len : Int)) = false →
 (∃ (i_1 : Nat),
 i_1.le pr.len ∧
 (0 : Int) = (↑i_1 : Int) ∧
 ch.len = ch.len ∧
 i = ru.len ∧
 i_1 = (0 : Nat) ∧
 List.map (chR ch) (List.range ch.len) = List.map (chR ch) (List.range ch.len) ∧
 List.map (ruR ru) (List.range i) = List.map (ruR ru) (List.range ru.len) ∧
 List.map (prR pr) (List.range i_1) = [] ∧ ch.rows = ch.rows ∧ ru.rows = ru.rows ∧ pr.rows = pr.rows) ∧
 ∀ (i : Nat),
 i.le pr.len →
 (decide ((↑i : Int) < (↑pr.len : Int)) = true →
 ((0 : Int) ≤ (↑i : Int) ∧ (↑i : Int) < (↑pr.len : Int)) ∧
 (0 : Nat) = (D.l []).len ∧
 ((0 : Nat) + (pr.el (↑i : Int).toNat ((0 : Nat) + (1 : Nat))).len) * (16 : Nat) ≤ (140737488355328 : Nat) ∧
 bS (pr.el (↑i : Int).toNat ((0 : Nat) + (1 : Nat) + (1 : Nat))) ∧
 (0 : Nat) + ((0 : Nat) + (pr.el (↑i : Int).toNat ((0 : Nat) + (1 : Nat))).len) ≤
 ((D.l []).app (pr.el (↑i : Int).toNat ((0 : Nat) + (1 : Nat)))).len ∧
 i = (cpTo i (prR pr)).len ∧
 (i +
 ((D.l
 [[D.s (pr.el (↑i : Int).toNat (0 : Nat)).toS,
 ((D.l []).app (pr.el (↑i : Int).toNat ((0 : Nat) + (1 : Nat)))).sub (0 : Nat)
 ((0 : Nat) + ((0 : Nat) + (pr.el (↑i : Int).toNat ((0 : Nat) + (1 : Nat))).len)),
 cpB (pr.el (↑i : Int).toNat ((0 : Nat) + (1 : Nat) + (1 : Nat)))]]).sub
 (0 : Nat) ((0 : Nat) + (1 : Nat))).len) *
 (64 : Nat) ≤
 (140737488355328 : Nat) ∧
 (0 : Nat) + (1 : Nat) ≤
 (D.l
 [[D.s (pr.el (↑i : Int).toNat (0 : Nat)).toS,
 ((D.l []).app (pr.el (↑i : Int).toNat ((0 : Nat) + (1 : Nat)))).sub (0 : Nat)
 ((0 : Nat) + ((0 : Nat) + (pr.el (↑i : Int).toNat ((0 : Nat) + (1 : Nat))).len)),
 cpB (pr.el (↑i : Int).toNat ((0 : Nat) + (1 : Nat) + (1 : Nat)))]]).len ∧
 ∃ (j : Nat),
 j.le pr.len ∧
 pr.len + (1 : Nat) - j < pr.len + (1 : Nat) - i ∧
 IntKind.i64.wrap ((↑i : Int) + (1 : Int)) = (↑j : Int) ∧
 ch.len = ch.len ∧
 ru.len = ru.len ∧
 i +
 ((D.l
 [[D.s (pr.el (↑i : Int).toNat (0 : Nat)).toS,
 ((D.l []).app (pr.el (↑i : Int).toNat ((0 : Nat) + (1 : Nat)))).sub (0 : Nat)
 ((0 : Nat) +
 ((0 : Nat) + (pr.el (↑i : Int).toNat ((0 : Nat) + (1 : Nat))).len)),
 cpB (pr.el (↑i : Int).toNat ((0 : Nat) + (1 : Nat) + (1 : Nat)))]]).sub
 (0 : Nat) ((0 : Nat) + (1 : Nat))).len =
 j ∧
 List.map (chR ch) (List.range ch.len) = List.map (chR ch) (List.range ch.len) ∧
 List.map (ruR ru) (List.range ru.len) = List.map (ruR ru) (List.range ru.len) ∧
 List.map (prR pr) (List.range i) ++
 List.drop (0 : Nat)
 (List.take ((0 : Nat) + (1 : Nat))
 [[D.s (pr.el (↑i : Int).toNat (0 : Nat)).toS,
 ((D.l []).app (pr.el (↑i : Int).toNat ((0 : Nat) + (1 : Nat)))).sub (0 : Nat)
 ((0 : Nat) +
 ((0 : Nat) + (pr.el (↑i : Int).toNat ((0 : Nat) + (1 : Nat))).len)),
 cpB (pr.el (↑i : Int).toNat ((0 : Nat) + (1 : Nat) + (1 : Nat)))]]) =
 List.map (prR pr) (List.range j) ∧
 ch.rows = ch.rows ∧ ru.rows = ru.rows ∧ pr.rows = pr.rows) ∧
 (decide ((↑i : Int) < (↑pr.len : Int)) = false →
 (0 : Nat) + ch.len ≤ (cpTo ch.len (chR ch)).len ∧
 (0 : Nat) + ru.len ≤ (cpTo ru.len (ruR ru)).len ∧
 (0 : Nat) + i ≤ (cpTo i (prR pr)).len ∧
 List.drop ((0 : Nat)) (List.take ((0 : Nat) + ch.len) (List.map (chR ch) (List.range ch.len))) =
 List.map (chR ch) (List.range ch.len) ∧
 List.drop ((0 : Nat)) (List.take ((0 : Nat) + ru.len) (List.map (ruR ru) (List.range ru.len))) =
 List.map (ruR ru) (List.range ru.len) ∧
 List.drop ((0 : Nat)) (List.take ((0 : Nat) + i) (List.map (prR pr) (List.range i))) =
 List.map (prR pr) (List.range pr.len))))) (by kernel_rfl) ?_
    intro hs
    refine ⟨⟨0, Nat.zero_le _, by (repeat' apply And.intro) <;> rfl⟩, fun i hi => ⟨fun hc => ?_, fun hc => ?_⟩⟩
    · have hc := of_decide_eq_true hc
      have hi2 : i < ch.len := by omega
      have b1 := hs.c
      have b2 := hs.ct i hi2
      have hw2 : IntKind.i64.wrap ((i : Int) + 1) = ((i + 1 : Nat) : Int) := by rw [IntWalk.i64_in _ (by omega)]; omega
      rw [nD_app]
      refine ⟨⟨by omega, by omega⟩, rfl, (show (0 + (ch.el i 5).len) * 16 ≤ 140737488355328 by omega), app_le _, (cpTo_len _ _).symm, (show (i + 1) * 88 ≤ 140737488355328 by omega), Nat.le_refl _, i + 1, hi2, by omega, hw2, ?_⟩
      (repeat' apply And.intro) <;> first | exact (cpTo_succ i (chR ch)).symm | rfl
    · have hc := of_decide_eq_false hc
      have hi3 : i = ch.len := by have : i ≤ ch.len := hi; omega
      subst hi3
      refine ⟨⟨0, Nat.zero_le _, by (repeat' apply And.intro) <;> rfl⟩, fun i hi => ⟨fun hc => ?_, fun hc => ?_⟩⟩
      · have hc := of_decide_eq_true hc
        have hi2 : i < ru.len := by omega
        have b1 := hs.r
        have b2 := hs.rm i hi2
        have hw2 : IntKind.i64.wrap ((i : Int) + 1) = ((i + 1 : Nat) : Int) := by rw [IntWalk.i64_in _ (by omega)]; omega
        refine ⟨⟨by omega, by omega⟩, ⟨0, ⟨Nat.zero_le _, trivial⟩, by (repeat' apply And.intro) <;> rfl⟩, fun q hq => ⟨⟨by omega, by omega⟩, fun hd => ?_, fun hd => ?_⟩⟩
        · have hd := of_decide_eq_true hd
          have hq2 : q < (ru.el i 1).len := by have : (q : Int) < ((ru.el i 1).len : Int) := hd; omega
          have hwq : IntKind.i64.wrap ((q : Int) + 1) = ((q + 1 : Nat) : Int) := by rw [IntWalk.i64_in _ (by omega)]; omega
          refine ⟨⟨by omega, by omega⟩, ⟨by omega, hd⟩, (cpTo_len _ _).symm, (show (q + 1) * 32 ≤ 140737488355328 by omega), Nat.le_refl _, q + 1, ⟨hq2, trivial⟩, by omega, hwq, ?_⟩
          (repeat' apply And.intro) <;> first | exact (cpTo_succ q (mvR (ru.el i 1))).symm | rfl
        · have hd := of_decide_eq_false hd
          have hq3 : q = (ru.el i 1).len := by have : ¬ (q : Int) < ((ru.el i 1).len : Int) := hd; have := hq.1; omega
          subst hq3
          rw [cpTo_all]
          refine ⟨by rw [cpTo_len]; omega, (cpTo_len _ _).symm, (show (i + 1) * 40 ≤ 140737488355328 by omega), Nat.le_refl _, i + 1, hi2, by omega, hw2, ?_⟩
          (repeat' apply And.intro) <;> first | exact (cpTo_succ i (ruR ru)).symm | rfl
      · have hc := of_decide_eq_false hc
        have hi3 : i = ru.len := by have : i ≤ ru.len := hi; omega
        subst hi3
        refine ⟨⟨0, Nat.zero_le _, by (repeat' apply And.intro) <;> rfl⟩, fun i hi => ⟨fun hc => ?_, fun hc => ?_⟩⟩
        · have hc := of_decide_eq_true hc
          have hi2 : i < pr.len := by omega
          have b1 := hs.p
          have b2 := hs.pv i hi2
          have hw2 : IntKind.i64.wrap ((i : Int) + 1) = ((i + 1 : Nat) : Int) := by rw [IntWalk.i64_in _ (by omega)]; omega
          rw [nD_app]
          refine ⟨⟨by omega, by omega⟩, rfl, (show (0 + (pr.el i 1).len) * 16 ≤ 140737488355328 by omega), hs.pb i hi2, app_le _, (cpTo_len _ _).symm, (show (i + 1) * 64 ≤ 140737488355328 by omega), Nat.le_refl _, i + 1, hi2, by omega, hw2, ?_⟩
          (repeat' apply And.intro) <;> first | exact (cpTo_succ i (prR pr)).symm | rfl
        · have hc := of_decide_eq_false hc
          have hi3 : i = pr.len := by have : i ≤ pr.len := hi; omega
          subst hi3
          exact ⟨by rw [cpTo_len]; omega, by rw [cpTo_len]; omega, by rw [cpTo_len]; omega, takeAll _ _, takeAll _ _, takeAll _ _⟩
  · trivial
end Go.Proofs.YtomodncooiddaaaDoor.Sx.Z
