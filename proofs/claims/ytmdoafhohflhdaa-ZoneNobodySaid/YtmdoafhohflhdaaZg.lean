/-
  The laws' small calls: copies, From, bound.
-/
import Derived.Test.YtmdoafhohflhdaaZf
namespace Go.Proofs.Ytmdoafhohflhdaa.Sx.Z
open Go.RowKit
def copiesS : FSpec := fun ds _ => match ds with
  | [] => some { val := .one (.sc (.bool (.sym (true)))), vc := [] }
  | _ => none
def copiesC : Con := con [] copiesS
theorem copies_ok : ConOK Try.prog 16 copiesC := by
  refine fn_ob tt_ok mixed Try.func16 rfl (fun _ _ => by kernel_rfl) (A := fun ds => ⟨fun _ => Cons.of [(14, zerosC), (23, copyC), (19, zitvC), (33, iconstC), (24, zhasC), (29, zrightC), (12, topC)], fun _ => none, fun _ => none⟩) (fun _ _ => (cons_cons zeros_ok (cons_cons copy_ok (cons_cons zitv_ok (cons_cons iconst_ok (cons_cons zhas_ok (cons_cons zright_ok (cons_cons top_ok cons_nil)))))))) (by kernel_rfl) ?_
  intro ds fr
  unfold copiesS
  split
  · skip
    refine kmp (q := Good (min (max (2 : Int) (0 : Int)) (6 : Int)) (false, fun (x : Nat) => (0 : Int)) ∧
 Sm (copyZ (min (max (2 : Int) (0 : Int)) (6 : Int)) (0 : Int) (1 : Int) (3 : Int) (false, fun (x : Nat) => (0 : Int))).snd ∧
 ((itvLo (min (max (2 : Int) (0 : Int)) (6 : Int))
 (copyZ (min (max (2 : Int) (0 : Int)) (6 : Int)) (0 : Int) (1 : Int) (3 : Int) (false, fun (x : Nat) => (0 : Int))).fst
 (copyZ (min (max (2 : Int) (0 : Int)) (6 : Int)) (0 : Int) (1 : Int) (3 : Int) (false, fun (x : Nat) => (0 : Int))).snd (0 : Int) ==
 ofLo (3 : Int) (3 : Int) &&
 (itvHi (min (max (2 : Int) (0 : Int)) (6 : Int))
 (copyZ (min (max (2 : Int) (0 : Int)) (6 : Int)) (0 : Int) (1 : Int) (3 : Int) (false, fun (x : Nat) => (0 : Int))).fst
 (copyZ (min (max (2 : Int) (0 : Int)) (6 : Int)) (0 : Int) (1 : Int) (3 : Int) (false, fun (x : Nat) => (0 : Int))).snd (0 : Int) ==
 ofHi (3 : Int) (3 : Int) &&
 true)) =
 true ∧
 True →
 Sm (copyZ (min (max (2 : Int) (0 : Int)) (6 : Int)) (0 : Int) (1 : Int) (3 : Int) (false, fun (x : Nat) => (0 : Int))).snd) ∧
 (itvLo (min (max (2 : Int) (0 : Int)) (6 : Int))
 (copyZ (min (max (2 : Int) (0 : Int)) (6 : Int)) (0 : Int) (1 : Int) (3 : Int) (false, fun (x : Nat) => (0 : Int))).fst
 (copyZ (min (max (2 : Int) (0 : Int)) (6 : Int)) (0 : Int) (1 : Int) (3 : Int) (false, fun (x : Nat) => (0 : Int))).snd (0 : Int) ==
 ofLo (3 : Int) (3 : Int) &&
 (itvHi (min (max (2 : Int) (0 : Int)) (6 : Int))
 (copyZ (min (max (2 : Int) (0 : Int)) (6 : Int)) (0 : Int) (1 : Int) (3 : Int) (false, fun (x : Nat) => (0 : Int))).fst
 (copyZ (min (max (2 : Int) (0 : Int)) (6 : Int)) (0 : Int) (1 : Int) (3 : Int) (false, fun (x : Nat) => (0 : Int))).snd (0 : Int) ==
 ofHi (3 : Int) (3 : Int) &&
 true) &&
 (itvLo (min (max (2 : Int) (0 : Int)) (6 : Int))
 (copyZ (min (max (2 : Int) (0 : Int)) (6 : Int)) (0 : Int) (1 : Int) (3 : Int) (false, fun (x : Nat) => (0 : Int))).fst
 (copyZ (min (max (2 : Int) (0 : Int)) (6 : Int)) (0 : Int) (1 : Int) (3 : Int) (false, fun (x : Nat) => (0 : Int))).snd (1 : Int) ==
 ofLo (0 : Int) (0 : Int) &&
 (itvHi (min (max (2 : Int) (0 : Int)) (6 : Int))
 (copyZ (min (max (2 : Int) (0 : Int)) (6 : Int)) (0 : Int) (1 : Int) (3 : Int) (false, fun (x : Nat) => (0 : Int))).fst
 (copyZ (min (max (2 : Int) (0 : Int)) (6 : Int)) (0 : Int) (1 : Int) (3 : Int) (false, fun (x : Nat) => (0 : Int))).snd (1 : Int) ==
 ofHi (0 : Int) (0 : Int) &&
 true))) =
 true ∧
 ((itvLo (min (max (2 : Int) (0 : Int)) (6 : Int))
 (copyZ (min (max (2 : Int) (0 : Int)) (6 : Int)) (0 : Int) (1 : Int) (3 : Int) (false, fun (x : Nat) => (0 : Int))).fst
 (copyZ (min (max (2 : Int) (0 : Int)) (6 : Int)) (0 : Int) (1 : Int) (3 : Int) (false, fun (x : Nat) => (0 : Int))).snd (0 : Int) ==
 ofLo (3 : Int) (3 : Int) &&
 (itvHi (min (max (2 : Int) (0 : Int)) (6 : Int))
 (copyZ (min (max (2 : Int) (0 : Int)) (6 : Int)) (0 : Int) (1 : Int) (3 : Int) (false, fun (x : Nat) => (0 : Int))).fst
 (copyZ (min (max (2 : Int) (0 : Int)) (6 : Int)) (0 : Int) (1 : Int) (3 : Int) (false, fun (x : Nat) => (0 : Int))).snd (0 : Int) ==
 ofHi (3 : Int) (3 : Int) &&
 true) &&
 (itvLo (min (max (2 : Int) (0 : Int)) (6 : Int))
 (copyZ (min (max (2 : Int) (0 : Int)) (6 : Int)) (0 : Int) (1 : Int) (3 : Int) (false, fun (x : Nat) => (0 : Int))).fst
 (copyZ (min (max (2 : Int) (0 : Int)) (6 : Int)) (0 : Int) (1 : Int) (3 : Int) (false, fun (x : Nat) => (0 : Int))).snd (1 : Int) ==
 ofLo (0 : Int) (0 : Int) &&
 (itvHi (min (max (2 : Int) (0 : Int)) (6 : Int))
 (copyZ (min (max (2 : Int) (0 : Int)) (6 : Int)) (0 : Int) (1 : Int) (3 : Int) (false, fun (x : Nat) => (0 : Int))).fst
 (copyZ (min (max (2 : Int) (0 : Int)) (6 : Int)) (0 : Int) (1 : Int) (3 : Int) (false, fun (x : Nat) => (0 : Int))).snd (1 : Int) ==
 ofHi (0 : Int) (0 : Int) &&
 true))) =
 true ∧
 True →
 (0 : Nat) + (2 : Nat) ≤ (D.l [[D.i (3 : Int)], [D.i (0 : Int)]]).len) ∧
 (itvLo (min (max (2 : Int) (0 : Int)) (6 : Int))
 (copyZ (min (max (2 : Int) (0 : Int)) (6 : Int)) (0 : Int) (1 : Int) (3 : Int) (false, fun (x : Nat) => (0 : Int))).fst
 (copyZ (min (max (2 : Int) (0 : Int)) (6 : Int)) (0 : Int) (1 : Int) (3 : Int) (false, fun (x : Nat) => (0 : Int))).snd (0 : Int) ==
 ofLo (3 : Int) (3 : Int) &&
 (itvHi (min (max (2 : Int) (0 : Int)) (6 : Int))
 (copyZ (min (max (2 : Int) (0 : Int)) (6 : Int)) (0 : Int) (1 : Int) (3 : Int) (false, fun (x : Nat) => (0 : Int))).fst
 (copyZ (min (max (2 : Int) (0 : Int)) (6 : Int)) (0 : Int) (1 : Int) (3 : Int) (false, fun (x : Nat) => (0 : Int))).snd (0 : Int) ==
 ofHi (3 : Int) (3 : Int) &&
 true) &&
 (itvLo (min (max (2 : Int) (0 : Int)) (6 : Int))
 (copyZ (min (max (2 : Int) (0 : Int)) (6 : Int)) (0 : Int) (1 : Int) (3 : Int) (false, fun (x : Nat) => (0 : Int))).fst
 (copyZ (min (max (2 : Int) (0 : Int)) (6 : Int)) (0 : Int) (1 : Int) (3 : Int) (false, fun (x : Nat) => (0 : Int))).snd (1 : Int) ==
 ofLo (0 : Int) (0 : Int) &&
 (itvHi (min (max (2 : Int) (0 : Int)) (6 : Int))
 (copyZ (min (max (2 : Int) (0 : Int)) (6 : Int)) (0 : Int) (1 : Int) (3 : Int) (false, fun (x : Nat) => (0 : Int))).fst
 (copyZ (min (max (2 : Int) (0 : Int)) (6 : Int)) (0 : Int) (1 : Int) (3 : Int) (false, fun (x : Nat) => (0 : Int))).snd (1 : Int) ==
 ofHi (0 : Int) (0 : Int) &&
 true)) &&
 hasP (min (max (2 : Int) (0 : Int)) (6 : Int))
 (copyZ (min (max (2 : Int) (0 : Int)) (6 : Int)) (0 : Int) (1 : Int) (3 : Int) (false, fun (x : Nat) => (0 : Int))).fst
 (copyZ (min (max (2 : Int) (0 : Int)) (6 : Int)) (0 : Int) (1 : Int) (3 : Int) (false, fun (x : Nat) => (0 : Int))).snd
 ((D.l [[D.i (3 : Int)], [D.i (0 : Int)]]).sub (0 : Nat) ((0 : Nat) + (2 : Nat))).len
 (ig ((D.l [[D.i (3 : Int)], [D.i (0 : Int)]]).sub (0 : Nat) ((0 : Nat) + (2 : Nat)))) &&
 rightP (min (max (2 : Int) (0 : Int)) (6 : Int))
 (copyZ (min (max (2 : Int) (0 : Int)) (6 : Int)) (0 : Int) (1 : Int) (3 : Int) (false, fun (x : Nat) => (0 : Int))).fst
 (copyZ (min (max (2 : Int) (0 : Int)) (6 : Int)) (0 : Int) (1 : Int) (3 : Int) (false, fun (x : Nat) => (0 : Int))).snd &&
 rightP (topN (3 : Int)) false (topF (3 : Int))) =
 true) (by kernel_rfl) ?_
    have hg : Good (min (max 2 0) 6) (false, fun _ => 0) := good_none (by omega) _
    have hcp := good_copy hg 0 1 3
    and_intros
    all_goals first | exact hg | exact hcp.sm | exact fun _ => hcp.sm | omega | exact fun _ => (by omega) | kernel_rfl | exact fun _ => (by decide)
  · trivial
end Go.Proofs.Ytmdoafhohflhdaa.Sx.Z
