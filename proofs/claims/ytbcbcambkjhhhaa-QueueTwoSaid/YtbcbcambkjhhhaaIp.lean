/-
  A block that is made behind two stores.
-/
import Derived.Test.YtbcbcambkjhhhaaIs
namespace Go.Proofs.Ytbcbcambkjhhhaa
open Go.RowKit
theorem blkP (W : World) (g : Nat) (u v : Value) (x : Obj) : (((W.setCell ⟨g, 0, none⟩ u).setCell ⟨g, 1, none⟩ v).alloc x).heap[W.heap.size]? = some x := blkA _ _ (by simp [World.setCell])
end Go.Proofs.Ytbcbcambkjhhhaa
