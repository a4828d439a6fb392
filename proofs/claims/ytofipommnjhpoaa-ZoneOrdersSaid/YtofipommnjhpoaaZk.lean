/-
  Arguments that are Acts, in memory.
-/
import Derived.Test.YtofipommnjhpoaaRows
import Derived.WalkKit
import Derived.ProofKit
import Derived.OpenShut
import Derived.ChangeOld
import Derived.Below
import Derived.Lib.SmallJoins
namespace Go.Proofs.Ytofipommnjhpoaa
open Go.ChangeShapes Go.WideShapes Go.ChangeAt Go.RowKit Go.Joins Go.Deep
section
variable {H : Type} {enc : TypeId × Value → H} {w : World} {base : Nat} {spare : Nat → Bool} {held : Bool}
set_option maxRecDepth 100000 in
theorem act_cells {fuel : Nat} {cs : List Value} {x : DataW H × List MemPlace} (h : DataW.trod enc Try.prog w base spare held fuel 44 cs = some x) : ∃ a b c d : Int, cs = [.int .i64 a, .int .i64 b, .int .i64 c, .int .i64 d] := by
  obtain ⟨y0, y1, y2, y3, n, _, hl, h0, h1, h2, h3⟩ := trod_struct4 Try.underlying44 h
  obtain ⟨a, ea, _⟩ := DataW.trod_int Try.underlying3 h0
  obtain ⟨b, eb, _⟩ := DataW.trod_int Try.underlying3 h1
  obtain ⟨c, ec, _⟩ := DataW.trod_int Try.underlying3 h2
  obtain ⟨d, ed, _⟩ := DataW.trod_int Try.underlying3 h3
  have hl2 : cs.length = 4 := hl.trans (by kernel_rfl)
  rw [show Try.prog.cellsOf 3 = 1 by kernel_rfl] at ea eb ec ed
  match cs, hl2 with
  | [c0, c1, c2, c3], _ =>
    have e0 : c0 = .int .i64 a := by simpa using ea
    have e1 : c1 = .int .i64 b := by simpa using eb
    have e2 : c2 = .int .i64 c := by simpa using ec
    have e3 : c3 = .int .i64 d := by simpa using ed
    exact ⟨a, b, c, d, by rw [e0, e1, e2, e3]⟩
set_option maxRecDepth 100000 in
theorem act_of {r : Reach} {b0 : Nat} {v : Value} {d : DataW H} {p : List MemPlace} (hv : Value.okWide Try.prog w r b0 44 v) (h : DataW.Trod enc Try.prog w base spare held 44 v d p) :
    ∃ a b c e : Int, v = .agg #[.int .i64 a, .int .i64 b, .int .i64 c, .int .i64 e] := by
  obtain ⟨cs, rfl, hsz⟩ := okWide_struct Try.underlying44 hv
  obtain ⟨c0, c1, c2, c3, rfl⟩ := array4 (hsz.trans (show _ = 4 by kernel_rfl))
  obtain ⟨fuel, hf⟩ := h
  obtain ⟨a, b, c, e, he⟩ := act_cells hf
  have he' : [c0, c1, c2, c3] = [.int .i64 a, .int .i64 b, .int .i64 c, .int .i64 e] := by simpa [Value.cells] using he
  simp only [List.cons.injEq, and_true] at he'
  exact ⟨a, b, c, e, by rw [he'.1, he'.2.1, he'.2.2.1, he'.2.2.2]⟩
end
end Go.Proofs.Ytofipommnjhpoaa
