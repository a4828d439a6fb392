/-
  Small facts on integers and on bytes made into texts, for the walks of the laws.
-/
import Derived.Test.YtlnfilefpehnbaaReads
import Derived.Laws.IdiomStrings
namespace Go.Proofs.Ytlnfilefpehnbaa
open Go.RowKit

theorem u64_pos (n : Int) : 0 ≤ IntKind.u64.wrap n := by
  show 0 ≤ n % _
  exact Int.emod_nonneg _ (by decide)

/-- make([]byte, n): zeros in a new block. -/
theorem mk_bytes (K : Nat) (hK : K ≤ 281474976710656) : ∃ M : Array Value, M.size = K ∧ ∀ W : World, (Instr.makeSlice 38 (.int .i64 (K : Int)) (.int .i64 (K : Int))).run Try.prog W = .ok (.slice (some ⟨W.heap.size, 0, none⟩) K K) (W.alloc (.cells M 5)) := by
  obtain ⟨i0, hi, hz0, hz1, hz2⟩ := info_parts info_u8
  refine ⟨madeCells (Value.int .u8 0).cells (((K : Nat) : Int).toNat * i0.size), by rw [size_madeCells, hz1]; simp, fun W => ?_⟩
  have h := run_make (P := Try.prog) W 38 5 i0 (.int .u8 0) Try.underlying38 hi hz0 .i64 .i64 (K : Int) (K : Int) (by omega) (by omega) (by rw [hz2]; omega) (by omega)
  simpa using h
/-- string(b), b in a block of the call's own. -/
theorem cv_bytes (w : World) (g cap : Nat) (l : List UInt8) (hc : ∀ j (hj : j < l.length), w.cell? ⟨g, j, none⟩ = some (.int .u8 (l[j].toNat : Int))) :
    (convert 38 9 (.slice (some ⟨g, 0, none⟩) l.length cap)).run Try.prog w = .ok (.string ⟨l.toArray⟩) w :=
  run_convert_bytes_back w 38 9 5 ⟨g, 0, none⟩ cap l Try.underlying38 Try.underlying5 Try.underlying9 fun j hj => by
    have e : (⟨g, 0, none⟩ : Addr).add j = ⟨g, j, none⟩ := by unfold Addr.add; split <;> simp_all
    rw [e]
    exact hc j hj
end Go.Proofs.Ytlnfilefpehnbaa
