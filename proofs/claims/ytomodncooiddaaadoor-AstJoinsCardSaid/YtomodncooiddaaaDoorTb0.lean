/-
  The listed tables, as the executor knows them.
-/
import Derived.Test.YtomodncooiddaaaDoorRows
import Derived.Test.YtomodncooiddaaaDoorTt
import Derived.LaidMore
import Derived.Stop.LaidErr
import Derived.MakeChecks
namespace Go.Proofs.YtomodncooiddaaaDoor.Sx.Z
theorem tab_laid {W : World} (h : laidMetH Tryd.prog [("math/bits.deBruijn32tab", Rows.laid_math_bits_deBruijn32tab), ("math/bits.deBruijn64tab", Rows.laid_math_bits_deBruijn64tab), ("internal/strconv.uint64pow10", Rows.laid_internal_strconv_uint64pow10)] W) : TabF (cellsAt W) := by
  rw [MakeChecks.laidMetH_plain _ _ _ (by kernel_rfl)] at h
  have h3 : laidMet Tryd.prog (("internal/strconv.uint64pow10", Lib.tabData .u64 Lib.pow10Tab) :: []) W := h.tail.tail
  have ht := Lib.tabIs_of_head (g := 0) (t := 189) (e := 22) (n := 20) (by kernel_rfl) (by kernel_rfl) Tryd.underlying189 Tryd.underlying22 (by kernel_rfl) (by kernel_rfl) h3
  rintro g cs ⟨hg, rfl⟩
  obtain rfl := Option.some.inj ((show PG.globalNamed "internal/strconv.uint64pow10" = some 0 by kernel_rfl).symm.trans hg)
  unfold Lib.TabIs World.var? at ht
  rw [show Tryd.prog.globalNamed "internal/strconv.uint64pow10" = some 0 by kernel_rfl] at ht
  change (match W.heap[0]? with | some (.cells cs _ _) => some cs | _ => none) = _ at ht
  unfold cellsAt
  exact ht
end Go.Proofs.YtomodncooiddaaaDoor.Sx.Z
