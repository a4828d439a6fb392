/-
  The reference's Cut; two blocks that are stored anew.
-/
import Derived.Test.YtkicilkegeckeaaIs
namespace Go.Proofs.Ytkicilkegeckeaa
open Go.RowKit
/-- Two blocks of two cells hold something else; all that was there before is as it was. -/
def OldCut (w : World) (n m : Nat) (t : TypeId) (x0 x1 y0 y1 : Int) (wx : World) : Prop := wx.heap[n]? = some (.cells #[.int .i64 x0, .int .i64 x1] t (0, 0)) ∧ wx.heap[m]? = some (.cells #[.int .i64 y0, .int .i64 y1] t (0, 0)) ∧ Below w.heap.size w wx

end Go.Proofs.Ytkicilkegeckeaa
