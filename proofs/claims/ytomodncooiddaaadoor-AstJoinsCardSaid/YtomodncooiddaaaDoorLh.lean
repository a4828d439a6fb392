/-
  ast: the writer's put.
-/
import Derived.Test.YtomodncooiddaaaDoorLg
namespace Go.Proofs.YtomodncooiddaaaDoor.Sx.Z
open Go.RowKit
def putD (w ws : D) : D := cat w (wsL ws ws.len)
theorem wsL_succ (ws : D) (n : Nat) : wsL ws (n + 1) = wsL ws n ++ [(ws.el n 0).toS] := by
  unfold wsL
  rw [List.range_succ, List.map_append]; rfl
theorem wsL_add (ws : D) (n : Nat) : ∀ m, ∃ l, wsL ws (n + m) = wsL ws n ++ l
  | 0 => ⟨[], by simp⟩
  | m + 1 => by
    obtain ⟨l, h⟩ := wsL_add ws n m
    exact ⟨l ++ [(ws.el (n + m) 0).toS], by rw [← Nat.add_assoc, wsL_succ, h, List.append_assoc]⟩
theorem cat_stop {w ws : D} {i : Nat} (hi : i ≤ ws.len) (h : (cat w (wsL ws i)).len > 2000) : putD w ws = cat w (wsL ws i) := by
  obtain ⟨l, e⟩ := wsL_add ws i (ws.len - i)
  have h1 := cat_le w (wsL ws i)
  unfold putD
  rw [show ws.len = i + (ws.len - i) by omega, e, ← cat_cat, cat_full (by omega)]
noncomputable def tooMS : List Dat → Option (Eff × List Seg) := fun ds => match ds with
  | [.d w] => some ({ val := .one (.sc (.bool (.sym (decide ((w.len : Int) > 2000))))), vc := [w.len ≤ 3000000000000], nw := [(0, .orow 9 (w))] }, [.c (.osl 9 0 (.lit 0) (.sym (w).len))])
  | _ => none
noncomputable def tooMC : Con := conM 106 [.own 9] [] tooMS
theorem tooM_ok : ConOK Tryd.prog 25 tooMC := by
  refine fn_obM tt_ok mixed Tryd.func25 rfl (fun _ _ => by kernel_rfl) (A := fun ds => ⟨fun _ => Cons.of [], fun _ => none, fun _ => none⟩) (fun _ _ => cons_nil) (by kernel_rfl) ?_
  intro ds
  unfold tooMS
  split
  · rename_i w
    refine kmp (q := w.len ≤ (3000000000000 : Nat) → decide ((↑w.len : Int) > (2000 : Int)) = decide ((↑w.len : Int) > (2000 : Int)) ∧ w.len = w.len ∧ w.rows = w.rows) (by kernel_rfl) ?_
    intro _
    exact ⟨rfl, rfl, rfl⟩
  · trivial
noncomputable def putS : List Dat → Option (Eff × List Seg) := fun ds => match ds with
  | [.d w, .d ws] => some ({ val := .tup [], vc := [w.len ≤ 2001, ws.len ≤ 1000, ∀ j, j < ws.len → (ws.el j 0).toS.size ≤ 281474976710656], nw := [(0, .orow 9 (putD w ws))] }, [.c (.osl 9 0 (.lit 0) (.sym (putD w ws).len))])
  | _ => none
noncomputable def putC : Con := conM 106 [.own 9] [lNs] putS
theorem put_ok : ConOK Tryd.prog 69 putC := by
  refine fn_obM tt_ok mixed Tryd.func69 rfl (fun _ _ => by kernel_rfl) (A := fun ds => ⟨fun _ => Cons.of [(25, tooMC), (29, clC)], fun k => match k, ds with | 1, [.d w, .d ws] => some { ι := Nat, pre := fun _ i => i ≤ ws.len, μ := fun i => ws.len - i, st := fun s i => famR s [(8, .one (.sc (.int .i64 (.sym ((i : Int))))))] [0, 6, 7] [(0, .own 106 ([.c (.osl 9 1 (.lit 0) (.sym (cat w (wsL ws i)).len))])), (1, .orow 9 (cat w (wsL ws i)))] [] } | _, _ => none, fun _ => none⟩) (fun _ _ => (cons_cons tooM_ok (cons_cons cl_ok cons_nil))) (by kernel_rfl) ?_
  intro ds
  unfold putS
  split
  · rename_i w ws
    refine kmp (q := w.len ≤ (2001 : Nat) →
 ws.len ≤ (1000 : Nat) →
 (∀ (j : Nat), j < ws.len → (ws.el j (0 : Nat)).toS.size ≤ (281474976710656 : Nat)) →
 (∃ (i : Nat),
 i.le ws.len ∧
 (0 : Int) = (↑i : Int) ∧
 ws.rows = ws.rows ∧
 (↑ws.len : Int) = (↑ws.len : Int) ∧ w.len = (cat w (wsL ws i)).len ∧ w.rows = List.take (2001 : Nat) (w.rows ++ List.map sR (wsL ws i))) ∧
 ∀ (i : Nat),
 i.le ws.len →
 (decide ((↑i : Int) < (↑ws.len : Int)) = true →
 ((0 : Int) ≤ (↑i : Int) ∧ (↑i : Int) < (↑ws.len : Int)) ∧
 (0 : Nat) = (0 : Nat) ∧
 (cat w (wsL ws i)).len = (cat w (wsL ws i)).len ∧
 (cat w (wsL ws i)).len ≤ (3000000000000 : Nat) ∧
 (decide ((↑(cat w (wsL ws i)).len : Int) > (2000 : Int)) = true →
 (cat w (wsL ws i)).len = (putD w ws).len ∧
 List.take (2001 : Nat) (w.rows ++ List.map sR (wsL ws i)) = List.take (2001 : Nat) (w.rows ++ List.map sR (wsL ws ws.len))) ∧
 (decide ((↑(cat w (wsL ws i)).len : Int) > (2000 : Int)) = false →
 (ws.el (↑i : Int).toNat (0 : Nat)).toS.size ≤ (281474976710656 : Nat) ∧
 (cat w (wsL ws i)).len = (cat w (wsL ws i)).len ∧
 ((cat w (wsL ws i)).len + ((D.l [[D.s (ws.el (↑i : Int).toNat (0 : Nat)).toS]]).sub (0 : Nat) ((0 : Nat) + (1 : Nat))).len) *
 (16 : Nat) ≤
 (140737488355328 : Nat) ∧
 (0 : Nat) + (1 : Nat) ≤ (D.l [[D.s (ws.el (↑i : Int).toNat (0 : Nat)).toS]]).len ∧
 ∃ (j : Nat),
 j.le ws.len ∧
 ws.len - j < ws.len - i ∧
 IntKind.i64.wrap ((↑i : Int) + (1 : Int)) = (↑j : Int) ∧
 ws.rows = ws.rows ∧
 (↑ws.len : Int) = (↑ws.len : Int) ∧
 (cat w (wsL ws i)).len +
 ((D.l [[D.s (ws.el (↑i : Int).toNat (0 : Nat)).toS]]).sub (0 : Nat) ((0 : Nat) + (1 : Nat))).len =
 (cat w (wsL ws j)).len ∧
 List.take (2001 : Nat) (w.rows ++ List.map sR (wsL ws i)) ++
 List.drop (0 : Nat) (List.take ((0 : Nat) + (1 : Nat)) [[D.s (ws.el (↑i : Int).toNat (0 : Nat)).toS]]) =
 List.take (2001 : Nat) (w.rows ++ List.map sR (wsL ws j)))) ∧
 (decide ((↑i : Int) < (↑ws.len : Int)) = false →
 (cat w (wsL ws i)).len = (putD w ws).len ∧
 List.take (2001 : Nat) (w.rows ++ List.map sR (wsL ws i)) = List.take (2001 : Nat) (w.rows ++ List.map sR (wsL ws ws.len)))) (by kernel_rfl) ?_
    intro h1 h2 h3
    have e0 : ∀ (i : Nat), ((i : Int)).toNat = i := fun i => Int.toNat_natCast i
    simp only [e0]
    refine ⟨⟨0, Nat.zero_le _, rfl, trivial, trivial, ?_, ?_⟩, fun i hi => ⟨fun hl => ?_, fun hl => ?_⟩⟩
    · rw [cat_len]
      show w.len = min 2001 (w.len + 0)
      omega
    · show w.rows = List.take 2001 (w.rows ++ [])
      rw [List.append_nil, List.take_of_length_le (show w.len ≤ 2001 from h1)]
    · have hl := of_decide_eq_true hl
      have hi : i < ws.len := by omega
      have hw : IntKind.i64.wrap ((i : Int) + 1) = ((i + 1 : Nat) : Int) := by rw [IntWalk.i64_in _ (by omega)]; omega
      refine ⟨⟨by omega, by omega⟩, trivial, trivial, by have := cat_le w (wsL ws i); omega, fun hc => ?_, fun hc => ?_⟩
      · have hc := of_decide_eq_true hc
        have e := cat_stop (w := w) (Nat.le_of_lt hi) (by omega)
        exact ⟨by rw [e], congrArg D.rows e.symm⟩
      · have hc := of_decide_eq_false hc
        have e : cat w (wsL ws (i + 1)) = D.l ((cat w (wsL ws i)).rows ++ [[D.s (ws.el i 0).toS]]) := by rw [wsL_succ, ← cat_cat, cat_one (by omega)]
        have l1 : ((D.l [[D.s (ws.el i 0).toS]]).sub 0 (0 + 1)).len = 1 := rfl
        rw [l1]
        refine ⟨h3 i hi, trivial, by omega, Nat.le_refl _, i + 1, hi, by omega, hw, trivial, trivial, ?_, congrArg D.rows e.symm⟩
        rw [e]
        show _ = ((cat w (wsL ws i)).rows ++ [[D.s (ws.el i 0).toS]]).length
        rw [List.length_append]; rfl
    · have hl := of_decide_eq_false hl
      have hi : i = ws.len := by have : i ≤ ws.len := hi; omega
      rw [hi]
      exact ⟨rfl, rfl⟩
  · trivial
end Go.Proofs.YtomodncooiddaaaDoor.Sx.Z
