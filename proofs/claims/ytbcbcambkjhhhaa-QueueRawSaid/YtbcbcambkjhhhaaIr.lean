/-
  Regions that draw their order, where two blocks are made beside calls: what is carried through.
-/
import Derived.Test.YtbcbcambkjhhhaaId
import Derived.Deep.CutRange
namespace Go.Proofs.Ytbcbcambkjhhhaa
open Go.RowKit

theorem below_undrew {W W' : World} (h : Below W.drew.heap.size W.drew W') : Below W.heap.size W W' := (Below.refl _ W).drew.trans h
theorem below_al {W0 W : World} (h : Below W0.heap.size W0 W) (x : Obj) : Below W0.heap.size W0 (W.alloc x) := h.alloc h.size x
theorem below_tr {W0 W W' : World} (h : Below W0.heap.size W0 W) (hb : Below W.heap.size W W') : Below W0.heap.size W0 W' := h.trans (hb.mono h.size)
theorem below_put {W0 W : World} {g : Nat} {u v : Value} (h : Below W0.heap.size W0 W) (hg : W0.heap.size ≤ g) : Below W0.heap.size W0 ((W.setCell ⟨g, 0, none⟩ u).setCell ⟨g, 1, none⟩ v) := (h.setCell (p := ⟨g, 0, none⟩) hg u).setCell (p := ⟨g, 1, none⟩) hg v
theorem blkT1 {W W' : World} {x : Obj} (h : Below (W.alloc x).heap.size (W.alloc x) W') : W'.heap[W.heap.size]? = some x := blk_keep h (blkA W x rfl)
theorem blkT2a {W W' : World} {x y : Obj} (h : Below ((W.alloc x).alloc y).heap.size ((W.alloc x).alloc y) W') : W'.heap[W.heap.size]? = some x := blk_keep h (blkUp (blkA W x rfl) y)
theorem blkT2b {W W' : World} {x y : Obj} (h : Below ((W.alloc x).alloc y).heap.size ((W.alloc x).alloc y) W') : W'.heap[W.heap.size + 1]? = some y := blk_keep h (blkA (W.alloc x) y (by simp only [World.size_alloc]))
theorem setab {W : World} {n : Nat} {t : TypeId} {a b u v : Value} (h : W.heap[n]? = some (.cells #[a, b] t (0, 0))) : ((W.setCell ⟨n, 0, none⟩ u).setCell ⟨n, 1, none⟩ v).heap[n]? = some (.cells #[u, v] t (0, 0)) := (put2 h u v rfl).1
theorem setno {W : World} {n g : Nat} {x : Obj} {u v : Value} (h : W.heap[n]? = some x) (hne : n ≠ g) : ((W.setCell ⟨g, 0, none⟩ u).setCell ⟨g, 1, none⟩ v).heap[n]? = some x := blk_set (blk_set h hne) hne
/-- Two new blocks of two cells; all that was there is as it was. -/
def TwoCut (W0 : World) (t u : TypeId) (a b c d : Value) (e5 e6 : Value) (wx : World) : Prop := ∃ n m : Nat, e5 = .pointer (some ⟨n, 0, none⟩) ∧ e6 = .pointer (some ⟨m, 0, none⟩) ∧ n ≠ m ∧ W0.heap.size ≤ n ∧ W0.heap.size ≤ m ∧ wx.heap[n]? = some (.cells #[a, b] t (0, 0)) ∧ wx.heap[m]? = some (.cells #[c, d] u (0, 0)) ∧ Below W0.heap.size W0 wx
theorem four_of {W0 : World} {n m : Nat} {a b c d : Value} {t u : TypeId} (h : W0.heap[n]? = some (.cells #[a, b] t (0, 0))) (g : W0.heap[m]? = some (.cells #[c, d] u (0, 0))) (W : World) (hB : Below W0.heap.size W0 W) :
    W.cell? ⟨n, 0, none⟩ = some a ∧ W.cell? ⟨n, 1, none⟩ = some b ∧ W.cell? ⟨m, 0, none⟩ = some c ∧ W.cell? ⟨m, 1, none⟩ = some d := by
  have h' := blk_keep hB h
  have g' := blk_keep hB g
  exact ⟨row_of h' 0, row_of h' 1, row_of g' 0, row_of g' 1⟩
end Go.Proofs.Ytbcbcambkjhhhaa
