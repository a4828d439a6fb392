/-
  The laws' small calls: copies, From, bound.
-/
import Derived.Test.YtofipommnjhpoaaZf
namespace Go.Proofs.Ytofipommnjhpoaa.Sx.Z
open Go.RowKit
def lbX (x : Int) : Int := IntKind.i64.wrap ((IntKind.u64.wrap x).tmod 4)
def lbY (y : Int) : Int := IntKind.i64.wrap (IntKind.i64.wrap ((IntKind.u64.wrap y).tmod 5) - 1)
def lbB (b : Int) : Int := IntKind.i64.wrap (IntKind.i32.wrap b)
def lbZ (n x y b : Int) (z : Zs) : Zs := if (lbX x == lbY y) = true then z else bndZ n (lbX x) (lbY y) (lbB b) z
def copiesS : FSpec := fun ds _ => match ds with
  | [] => some { val := .one (.sc (.bool (.sym (true)))), vc := [] }
  | _ => none
def copiesC : Con := con [] copiesS
theorem copies_ok : ConOK Try.prog 16 copiesC := by
  refine fn_ob tt_ok mixed Try.func16 rfl (fun _ _ => by kernel_rfl) (A := fun ds => ⟨fun _ => Cons.of [(14, zerosC), (23, copyC), (19, zitvC), (33, iconstC), (24, zhasC), (29, zrightC), (12, topC)], fun _ => none⟩) (fun _ _ => (cons_cons zeros_ok (cons_cons copy_ok (cons_cons zitv_ok (cons_cons iconst_ok (cons_cons zhas_ok (cons_cons zright_ok (cons_cons top_ok cons_nil)))))))) (by kernel_rfl) ?_
  intro ds fr
  unfold copiesS
  split
  · skip
    refine kmp (q := Good (min (max (2 : Int) (0 : Int)) (6 : Int)) (false, fun (x : Nat) => (0 : Int)) ∧
 Sm (copyZ (min (max (2 : Int) (0 : Int)) (6 : Int)) (0 : Int) (1 : Int) (3 : Int) (false, fun (x : Nat) => (0 : Int))).snd ∧
 ((itvLo (min (max (2 : Int) (0 : Int)) (6 : Int))
 (copyZ (min (max (2 : Int) (0 : Int)) (6 : Int)) (0 : Int) (1 : Int) (3 : Int) (false, fun (x : Nat) => (0 : Int))).fst
 (copyZ (min (max (2 : Int) (0 : Int)) (6 : Int)) (0 : Int) (1 : Int) (3 : Int) (false, fun (x : Nat) => (0 : Int))).snd (0 : Int) ==
 ofLo (3 : Int) (3 : Int) &&
 (itvHi (min (max (2 : Int) (0 : Int)) (6 : Int))
 (copyZ (min (max (2 : Int) (0 : Int)) (6 : Int)) (0 : Int) (1 : Int) (3 : Int) (false, fun (x : Nat) => (0 : Int))).fst
 (copyZ (min (max (2 : Int) (0 : Int)) (6 : Int)) (0 : Int) (1 : Int) (3 : Int) (false, fun (x : Nat) => (0 : Int))).snd (0 : Int) ==
 ofHi (3 : Int) (3 : Int) &&
 true)) =
 true ∧
 True →
 Sm (copyZ (min (max (2 : Int) (0 : Int)) (6 : Int)) (0 : Int) (1 : Int) (3 : Int) (false, fun (x : Nat) => (0 : Int))).snd) ∧
 (itvLo (min (max (2 : Int) (0 : Int)) (6 : Int))
 (copyZ (min (max (2 : Int) (0 : Int)) (6 : Int)) (0 : Int) (1 : Int) (3 : Int) (false, fun (x : Nat) => (0 : Int))).fst
 (copyZ (min (max (2 : Int) (0 : Int)) (6 : Int)) (0 : Int) (1 : Int) (3 : Int) (false, fun (x : Nat) => (0 : Int))).snd (0 : Int) ==
 ofLo (3 : Int) (3 : Int) &&
 (itvHi (min (max (2 : Int) (0 : Int)) (6 : Int))
 (copyZ (min (max (2 : Int) (0 : Int)) (6 : Int)) (0 : Int) (1 : Int) (3 : Int) (false, fun (x : Nat) => (0 : Int))).fst
 (copyZ (min (max (2 : Int) (0 : Int)) (6 : Int)) (0 : Int) (1 : Int) (3 : Int) (false, fun (x : Nat) => (0 : Int))).snd (0 : Int) ==
 ofHi (3 : Int) (3 : Int) &&
 true) &&
 (itvLo (min (max (2 : Int) (0 : Int)) (6 : Int))
 (copyZ (min (max (2 : Int) (0 : Int)) (6 : Int)) (0 : Int) (1 : Int) (3 : Int) (false, fun (x : Nat) => (0 : Int))).fst
 (copyZ (min (max (2 : Int) (0 : Int)) (6 : Int)) (0 : Int) (1 : Int) (3 : Int) (false, fun (x : Nat) => (0 : Int))).snd (1 : Int) ==
 ofLo (0 : Int) (0 : Int) &&
 (itvHi (min (max (2 : Int) (0 : Int)) (6 : Int))
 (copyZ (min (max (2 : Int) (0 : Int)) (6 : Int)) (0 : Int) (1 : Int) (3 : Int) (false, fun (x : Nat) => (0 : Int))).fst
 (copyZ (min (max (2 : Int) (0 : Int)) (6 : Int)) (0 : Int) (1 : Int) (3 : Int) (false, fun (x : Nat) => (0 : Int))).snd (1 : Int) ==
 ofHi (0 : Int) (0 : Int) &&
 true))) =
 true ∧
 (0 : Nat) * (1 : Nat) + (1 : Nat) ≤ (2 : Nat) ∧
 (1 : Nat) * (1 : Nat) + (1 : Nat) ≤ (2 : Nat) ∧
 ((itvLo (min (max (2 : Int) (0 : Int)) (6 : Int))
 (copyZ (min (max (2 : Int) (0 : Int)) (6 : Int)) (0 : Int) (1 : Int) (3 : Int) (false, fun (x : Nat) => (0 : Int))).fst
 (copyZ (min (max (2 : Int) (0 : Int)) (6 : Int)) (0 : Int) (1 : Int) (3 : Int) (false, fun (x : Nat) => (0 : Int))).snd (0 : Int) ==
 ofLo (3 : Int) (3 : Int) &&
 (itvHi (min (max (2 : Int) (0 : Int)) (6 : Int))
 (copyZ (min (max (2 : Int) (0 : Int)) (6 : Int)) (0 : Int) (1 : Int) (3 : Int) (false, fun (x : Nat) => (0 : Int))).fst
 (copyZ (min (max (2 : Int) (0 : Int)) (6 : Int)) (0 : Int) (1 : Int) (3 : Int) (false, fun (x : Nat) => (0 : Int))).snd
 (0 : Int) ==
 ofHi (3 : Int) (3 : Int) &&
 true) &&
 (itvLo (min (max (2 : Int) (0 : Int)) (6 : Int))
 (copyZ (min (max (2 : Int) (0 : Int)) (6 : Int)) (0 : Int) (1 : Int) (3 : Int) (false, fun (x : Nat) => (0 : Int))).fst
 (copyZ (min (max (2 : Int) (0 : Int)) (6 : Int)) (0 : Int) (1 : Int) (3 : Int) (false, fun (x : Nat) => (0 : Int))).snd (1 : Int) ==
 ofLo (0 : Int) (0 : Int) &&
 (itvHi (min (max (2 : Int) (0 : Int)) (6 : Int))
 (copyZ (min (max (2 : Int) (0 : Int)) (6 : Int)) (0 : Int) (1 : Int) (3 : Int) (false, fun (x : Nat) => (0 : Int))).fst
 (copyZ (min (max (2 : Int) (0 : Int)) (6 : Int)) (0 : Int) (1 : Int) (3 : Int) (false, fun (x : Nat) => (0 : Int))).snd
 (1 : Int) ==
 ofHi (0 : Int) (0 : Int) &&
 true))) =
 true ∧
 True →
 (0 : Nat) + (2 : Nat) * (1 : Nat) ≤ (2 : Nat)) ∧
 ((itvLo (min (max (2 : Int) (0 : Int)) (6 : Int))
 (copyZ (min (max (2 : Int) (0 : Int)) (6 : Int)) (0 : Int) (1 : Int) (3 : Int) (false, fun (x : Nat) => (0 : Int))).fst
 (copyZ (min (max (2 : Int) (0 : Int)) (6 : Int)) (0 : Int) (1 : Int) (3 : Int) (false, fun (x : Nat) => (0 : Int))).snd
 (0 : Int) ==
 ofLo (3 : Int) (3 : Int) &&
 (itvHi (min (max (2 : Int) (0 : Int)) (6 : Int))
 (copyZ (min (max (2 : Int) (0 : Int)) (6 : Int)) (0 : Int) (1 : Int) (3 : Int) (false, fun (x : Nat) => (0 : Int))).fst
 (copyZ (min (max (2 : Int) (0 : Int)) (6 : Int)) (0 : Int) (1 : Int) (3 : Int) (false, fun (x : Nat) => (0 : Int))).snd
 (0 : Int) ==
 ofHi (3 : Int) (3 : Int) &&
 true) &&
 (itvLo (min (max (2 : Int) (0 : Int)) (6 : Int))
 (copyZ (min (max (2 : Int) (0 : Int)) (6 : Int)) (0 : Int) (1 : Int) (3 : Int) (false, fun (x : Nat) => (0 : Int))).fst
 (copyZ (min (max (2 : Int) (0 : Int)) (6 : Int)) (0 : Int) (1 : Int) (3 : Int) (false, fun (x : Nat) => (0 : Int))).snd
 (1 : Int) ==
 ofLo (0 : Int) (0 : Int) &&
 (itvHi (min (max (2 : Int) (0 : Int)) (6 : Int))
 (copyZ (min (max (2 : Int) (0 : Int)) (6 : Int)) (0 : Int) (1 : Int) (3 : Int) (false, fun (x : Nat) => (0 : Int))).fst
 (copyZ (min (max (2 : Int) (0 : Int)) (6 : Int)) (0 : Int) (1 : Int) (3 : Int) (false, fun (x : Nat) => (0 : Int))).snd
 (1 : Int) ==
 ofHi (0 : Int) (0 : Int) &&
 true)) &&
 hasP (min (max (2 : Int) (0 : Int)) (6 : Int))
 (copyZ (min (max (2 : Int) (0 : Int)) (6 : Int)) (0 : Int) (1 : Int) (3 : Int) (false, fun (x : Nat) => (0 : Int))).fst
 (copyZ (min (max (2 : Int) (0 : Int)) (6 : Int)) (0 : Int) (1 : Int) (3 : Int) (false, fun (x : Nat) => (0 : Int))).snd (2 : Nat)
 fun (j : Nat) =>
 if (((1 : Nat) * (1 : Nat)).ble j && j.blt ((1 : Nat) * (1 : Nat) + (1 : Nat))) = true then (0 : Int)
 else if (((0 : Nat) * (1 : Nat)).ble j && j.blt ((0 : Nat) * (1 : Nat) + (1 : Nat))) = true then (3 : Int) else (0 : Int)) &&
 rightP (min (max (2 : Int) (0 : Int)) (6 : Int))
 (copyZ (min (max (2 : Int) (0 : Int)) (6 : Int)) (0 : Int) (1 : Int) (3 : Int) (false, fun (x : Nat) => (0 : Int))).fst
 (copyZ (min (max (2 : Int) (0 : Int)) (6 : Int)) (0 : Int) (1 : Int) (3 : Int) (false, fun (x : Nat) => (0 : Int))).snd &&
 rightP (topN (3 : Int)) false (topF (3 : Int))) =
 true) (by kernel_rfl) ?_
    have hg : Good (min (max 2 0) 6) (false, fun _ => 0) := good_none (by omega) _
    have hcp := good_copy hg 0 1 3
    and_intros
    all_goals first | exact hg | exact hcp.sm | exact fun _ => hcp.sm | omega | exact fun _ => (by omega) | kernel_rfl
  · trivial
def lboundS : FSpec := fun ds _ => match ds with
  | [.i n, .b c, .f f, .i what, .i x, .i y, .i b] => some { val := .one (.agg [.c (.int .i64 (.sym (n))), .c (.bool (.sym ((lbZ n x y b (c, f)).1))), .ints .i64 (.lit 49) ((lbZ n x y b (c, f)).2)]), vc := [Good n (c, f)] }
  | _ => none
def lboundC : Con := con [zA, .agg [.c (.int .i64), .c (.int .i64), .c (.int .i64), .c (.int .i64)]] lboundS
theorem lbound_ok : ConOK Try.prog 34 lboundC := by
  refine fn_ob tt_ok mixed Try.func34 rfl (fun _ _ => by kernel_rfl) (A := fun ds => ⟨fun _ => Cons.of [(21, boundC)], fun _ => none⟩) (fun _ _ => (cons_cons bound_ok cons_nil)) (by kernel_rfl) ?_
  intro ds fr
  unfold lboundS
  split
  · rename_i n c f what x y b
    refine kmp (q := Good n (c, f) →
 ((IntKind.i64.wrap ((IntKind.u64.wrap x).tmod (4 : Int)) == IntKind.i64.wrap (IntKind.i64.wrap ((IntKind.u64.wrap y).tmod (5 : Int)) - (1 : Int))) = true →
 n = n ∧ c = (lbZ n x y b (c, f)).fst ∧ ∀ (o : Nat), o < (49 : Nat) → f o = (lbZ n x y b (c, f)).snd o) ∧
 ((IntKind.i64.wrap ((IntKind.u64.wrap x).tmod (4 : Int)) == IntKind.i64.wrap (IntKind.i64.wrap ((IntKind.u64.wrap y).tmod (5 : Int)) - (1 : Int))) = false →
 Sm f ∧
 n = n ∧
 bndC n c f (IntKind.i64.wrap ((IntKind.u64.wrap x).tmod (4 : Int)))
 (IntKind.i64.wrap (IntKind.i64.wrap ((IntKind.u64.wrap y).tmod (5 : Int)) - (1 : Int))) (IntKind.i64.wrap (IntKind.i32.wrap b)) =
 (lbZ n x y b (c, f)).fst ∧
 ∀ (o : Nat),
 o < (49 : Nat) →
 bndF n c f (IntKind.i64.wrap ((IntKind.u64.wrap x).tmod (4 : Int)))
 (IntKind.i64.wrap (IntKind.i64.wrap ((IntKind.u64.wrap y).tmod (5 : Int)) - (1 : Int))) (IntKind.i64.wrap (IntKind.i32.wrap b)) o =
 (lbZ n x y b (c, f)).snd o)) (by kernel_rfl) ?_
    intro h
    unfold lbZ
    refine ⟨fun h1 => ?_, fun h1 => ?_⟩
    · rw [if_pos (show (lbX x == lbY y) = true from h1)]; exact ⟨rfl, rfl, fun _ _ => rfl⟩
    · rw [if_neg (by rw [show (lbX x == lbY y) = false from h1]; simp)]; exact ⟨h.sm, rfl, rfl, fun _ _ => rfl⟩
  · trivial
end Go.Proofs.Ytofipommnjhpoaa.Sx.Z
