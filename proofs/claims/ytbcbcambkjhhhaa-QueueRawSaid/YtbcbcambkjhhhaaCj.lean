/-
  QueueRaw's contract.
-/
import Derived.Test.YtbcbcambkjhhhaaCh
namespace Go.Proofs.Ytbcbcambkjhhhaa.Sx.Z
open Go.RowKit
theorem hasJ_prD {l h : Int} {d q : D} (j : Nat) : hasJ ((l, h), prD d.len (pr d)) q j = hasJ ((l, h), d) q j := by
  unfold hasJ
  dsimp only
  rw [prD_len]
  by_cases h1 : 0 ≤ (q.el j 0).toI ∧ (q.el j 0).toI < d.len
  · rw [prD_el (by omega)]
  · have e : (decide (0 ≤ (q.el j 0).toI) && decide ((q.el j 0).toI < (d.len : Int))) = false := by rw [← Bool.decide_and]; exact decide_eq_false h1
    rw [e, Bool.false_and, Bool.false_and]
theorem hasQ_prD {l h : Int} {d q : D} : hasQ l h (prD d.len (pr d)) q = hasQ l h d q := by
  unfold hasQ
  rw [show hasJ ((l, h), prD d.len (pr d)) q = hasJ ((l, h), d) q from funext hasJ_prD]
noncomputable def qrawS : FSpec := fun ds _ => match ds with
  | [.i l, .i h, .d d, .d q, .i tag] => some { val := .one (.sc (.bool (.lit true))), vc := [d.len ≤ 8796093022208] }
  | _ => none
noncomputable def qrawC : Con := con [relA, .sc (.rows 60), iA] qrawS
theorem qraw_ok : ConOK Try.prog 5 qrawC := by
  refine fn_ob tt_ok mixed Try.func5 rfl (fun _ _ => by kernel_rfl) (A := fun ds => ⟨fun _ => Cons.of [(32, ltoC), (34, iconstC), (33, qsendC), (30, qnoneC), (23, qjoinC), (24, qwidenC), (35, qtagsC), (22, sendsC), (28, qhasC), (29, rhasC)], fun k => match k, ds with | 4, [.i l, .i h, .d d, .d q, .i tag] => some { ι := Nat, pre := fun _ k => k ≤ min q.len 20, μ := fun k => min q.len 20 + 1 - k, st := fun s k => famR s [(9, .one (.sc (.int .i64 (.sym ((k : Nat)))))), (8, .one (.sc (.osl 61 (s.nx - 1) (.lit 0) (.sym (k)))))] [1, 2, 3, 6, 7] [(s.nx - 1, .orow 61 (mgD q k))] [3, 7] } | _, _ => none, fun _ => none⟩) (fun _ _ => (cons_cons lto_ok (cons_cons iconst_ok (cons_cons qsend_ok (cons_cons qnone_ok (cons_cons qjoin_ok (cons_cons qwiden_ok (cons_cons qtags_ok (cons_cons sends_ok (cons_cons qhas_ok (cons_cons rhas_ok cons_nil))))))))))) (by kernel_rfl) ?_
  intro ds fr
  unfold qrawS
  split
  · rename_i l h d q tag
    refine kmp (q := d.len ≤ (8796093022208 : Nat) →
 d.len ≤ (8796093022208 : Nat) ∧
 (∃ (i : Nat),
 i.le (min q.len (20 : Nat)) ∧
 (0 : Int) = (↑i : Int) ∧
 i = (0 : Nat) ∧
 q.rows = q.rows ∧
 tag = tag ∧
 false = false ∧
 List.map (fun (j : Nat) => [D.i (q.el j (0 : Nat)).toI, D.i (q.el j (1 : Nat)).toI]) (List.range i) = [] ∧
 l = l ∧
 h = h ∧
 d.rows = d.rows ∧
 l = l ∧
 h = h ∧ List.map (fun (j : Nat) => cl (pr d j)) (List.range d.len) = List.map (fun (j : Nat) => cl (pr d j)) (List.range d.len)) ∧
 ∀ (i : Nat),
 i.le (min q.len (20 : Nat)) →
 ((decide ((↑i : Int) < (↑q.len : Int)) && decide ((↑i : Int) < (20 : Int))) = true →
 ((0 : Int) ≤ (↑i : Int) ∧ (↑i : Int) < (↑q.len : Int)) ∧
 ((0 : Int) ≤ (↑i : Int) ∧ (↑i : Int) < (↑q.len : Int)) ∧
 i = (mgD q i).len ∧
 (i +
 ((D.l [[D.i (q.el (↑i : Int).toNat ((0 : Nat) + (0 : Nat))).toI, D.i (q.el (↑i : Int).toNat ((0 : Nat) + (1 : Nat))).toI]]).sub
 (0 : Nat) ((0 : Nat) + (1 : Nat))).len) *
 (16 : Nat) ≤
 (140737488355328 : Nat) ∧
 (0 : Nat) + (1 : Nat) ≤
 (D.l [[D.i (q.el (↑i : Int).toNat ((0 : Nat) + (0 : Nat))).toI, D.i (q.el (↑i : Int).toNat ((0 : Nat) + (1 : Nat))).toI]]).len ∧
 ∃ (j : Nat),
 j.le (min q.len (20 : Nat)) ∧
 min q.len (20 : Nat) + (1 : Nat) - j < min q.len (20 : Nat) + (1 : Nat) - i ∧
 IntKind.i64.wrap ((↑i : Int) + (1 : Int)) = (↑j : Int) ∧
 i +
 ((D.l
 [[D.i (q.el (↑i : Int).toNat ((0 : Nat) + (0 : Nat))).toI,
 D.i (q.el (↑i : Int).toNat ((0 : Nat) + (1 : Nat))).toI]]).sub
 (0 : Nat) ((0 : Nat) + (1 : Nat))).len =
 j ∧
 q.rows = q.rows ∧
 tag = tag ∧
 false = false ∧
 List.map (fun (j : Nat) => [D.i (q.el j (0 : Nat)).toI, D.i (q.el j (1 : Nat)).toI]) (List.range i) ++
 List.drop (0 : Nat)
 (List.take ((0 : Nat) + (1 : Nat))
 [[D.i (q.el (↑i : Int).toNat ((0 : Nat) + (0 : Nat))).toI,
 D.i (q.el (↑i : Int).toNat ((0 : Nat) + (1 : Nat))).toI]]) =
 List.map (fun (j : Nat) => [D.i (q.el j (0 : Nat)).toI, D.i (q.el j (1 : Nat)).toI]) (List.range j) ∧
 l = l ∧
 h = h ∧
 d.rows = d.rows ∧
 l = l ∧
 h = h ∧
 List.map (fun (j : Nat) => cl (pr d j)) (List.range d.len) =
 List.map (fun (j : Nat) => cl (pr d j)) (List.range d.len)) ∧
 ((decide ((↑i : Int) < (↑q.len : Int)) && decide ((↑i : Int) < (20 : Int))) = false →
 (prD d.len (pr d)).len ≤ (8796093022208 : Nat) ∧
 ((1 : Int) ≤ (2 : Int) ∧ (2 : Int) ≤ (4 : Int)) ∧
 (prD d.len (pr d)).len ≤ (8796093022208 : Nat) ∧
 ((1 : Int) ≤ (2 : Int) ∧ (2 : Int) ≤ (4 : Int)) ∧
 (prD (Int.toNat (2 : Int)) fun (x : Nat) => ((1 : Int), (0 : Int))).len ≤ (8796093022208 : Nat) ∧
 (prD d.len (pr d)).len ≤ (8796093022208 : Nat) ∧
 nat_lit 0 + i ≤ (mgD q i).len ∧
 ((mgD q i).sub (nat_lit 0) (nat_lit 0 + i)).len ≤ (8796093022208 : Nat) ∧
 (prD d.len (pr d)).len ≤ (8796093022208 : Nat) ∧
 ((0 : Int) ≤ (↑i : Int) ∧ (↑i : Int) ≤ (↑q.len : Int)) ∧
 (q.sub (0 : Nat) (↑i : Int).toNat).len ≤ (8796093022208 : Nat) ∧
 d.len ≤ (8796093022208 : Nat) ∧
 (hasQ l h (prD d.len (pr d)) ((mgD q i).sub (nat_lit 0) (nat_lit 0 + i)) ==
 hasQ l h d (q.sub (0 : Nat) (↑i : Int).toNat)) =
 true)) (by kernel_rfl) ?_
    intro hd
    simp only [Int.toNat_natCast, prD_len, mg_has, hasQ_prD]
    refine ⟨hd, ⟨0, Nat.zero_le _, rfl, ?_⟩, fun i hi => ⟨fun x => ?_, fun x => ?_⟩⟩
    · (repeat' apply And.intro) <;> first | rfl | trivial
    · have x : (i : Int) < q.len ∧ (i : Int) < 20 := by simpa using x
      refine ⟨by omega, by omega, ?_, ?_, Nat.le_refl 1, i + 1, (show i + 1 ≤ min q.len 20 by omega), by omega, wr _ (by omega), ?_⟩
      · show i = ((List.range i).map _).length; simp
      · show (i + 1) * 16 ≤ _; omega
      (repeat' apply And.intro) <;> first | rfl | trivial | exact mgD_app q i
    · have x : ¬ ((i : Int) < q.len ∧ (i : Int) < 20) := by simpa using x
      have e : i = min q.len 20 := by have : i ≤ min q.len 20 := hi; omega
      have hiq : i ≤ q.len := by omega
      have hi20 : i ≤ 20 := by omega
      have hm : (mgD q i).len = i := by show ((List.range i).map _).length = i; simp
      rw [mg_has hiq, beq_self_eq_true]
      refine ⟨hd, by omega, hd, by omega, by omega, hd, by omega, ?_, hd, by omega, ?_, hd, rfl⟩
      · rw [sub_len (by omega)]; omega
      · rw [sub_len hiq]; omega
  · trivial
end Go.Proofs.Ytbcbcambkjhhhaa.Sx.Z
