/-
  Regions that draw their order, and end in stores: what is carried through.
-/
import Derived.Test.YtbcbcambkjhhhaaIr
namespace Go.Proofs.Ytbcbcambkjhhhaa
open Go.RowKit
theorem tr_B {B : Nat} {W0 W W' : World} (h : Below B W0 W) (hz : B ≤ W0.heap.size) (hb : Below W.heap.size W W') : Below B W0 W' := h.trans (hb.mono (Nat.le_trans hz h.size))
theorem put_B {B g : Nat} {W0 W : World} {u v : Value} (h : Below B W0 W) (hg : B ≤ g) : Below B W0 ((W.setCell ⟨g, 0, none⟩ u).setCell ⟨g, 1, none⟩ v) := (h.setCell (p := ⟨g, 0, none⟩) hg u).setCell (p := ⟨g, 1, none⟩) hg v
theorem four_B {B : Nat} {W0 : World} {n m : Nat} {a b c d : Value} {t u : TypeId} (h : W0.heap[n]? = some (.cells #[a, b] t (0, 0))) (g : W0.heap[m]? = some (.cells #[c, d] u (0, 0))) (hn : n < B) (hm : m < B) (W : World) (hB : Below B W0 W) :
    W.cell? ⟨n, 0, none⟩ = some a ∧ W.cell? ⟨n, 1, none⟩ = some b ∧ W.cell? ⟨m, 0, none⟩ = some c ∧ W.cell? ⟨m, 1, none⟩ = some d := by
  have h' := (hB.block n hn).trans h
  have g' := (hB.block m hm).trans g
  exact ⟨row_of h' 0, row_of h' 1, row_of g' 0, row_of g' 1⟩
end Go.Proofs.Ytbcbcambkjhhhaa
