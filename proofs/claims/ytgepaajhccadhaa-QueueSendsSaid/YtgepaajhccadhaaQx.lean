/-
  Arguments that are Puts, and rows of Puts, in memory.
-/
import Derived.Test.YtgepaajhccadhaaRows
import Derived.Test.YtgepaajhccadhaaQw
import Derived.WalkKit
import Derived.ProofKit
import Derived.OpenShut
import Derived.ShutString
import Derived.ChangeOld
import Derived.Below
import Derived.Lib.SmallJoins
import Derived.Deep.SlicePairs
namespace Go.Proofs.Ytgepaajhccadhaa
open Go.ChangeShapes Go.WideShapes Go.ChangeAt Go.RowKit Go.Joins Go.Deep
section
variable {H : Type} {enc : TypeId × Value → H} {w : World} {base : Nat} {spare : Nat → Bool} {held : Bool}
set_option maxRecDepth 100000 in
theorem itv_cells {fuel : Nat} {cs : List Value} {x : DataW H × List MemPlace} (h : DataW.trod enc Try.prog w base spare held fuel 29 cs = some x) : ∃ l u : Int, cs = [.int .i64 l, .int .i64 u] := by
  obtain ⟨y0, y1, n, _, hl, h0, h1⟩ := trod_struct2 Try.underlying29 h
  obtain ⟨a, ea, _⟩ := DataW.trod_int Try.underlying3 h0
  obtain ⟨b, eb, _⟩ := DataW.trod_int Try.underlying3 h1
  have hl2 : cs.length = 2 := hl.trans (by kernel_rfl)
  match cs, hl2 with
  | [c0, c1], _ =>
    have e0 : c0 = .int .i64 a := by
      have := ea
      rw [show Try.prog.cellsOf 3 = 1 by kernel_rfl] at this
      simpa using this
    have e1 : c1 = .int .i64 b := by
      have := eb
      rw [show Try.prog.cellsOf 3 = 1 by kernel_rfl] at this
      simpa using this
    exact ⟨a, b, by rw [e0, e1]⟩
set_option maxRecDepth 100000 in
theorem put_cells {fuel : Nat} {cs : List Value} {x : DataW H × List MemPlace} (h : DataW.trod enc Try.prog w base spare held fuel 62 cs = some x) : ∃ t l u : Int, cs = [.int .i64 t, .int .i64 l, .int .i64 u] := by
  obtain ⟨y0, y1, n, _, hl, h0, h1⟩ := trod_struct2 Try.underlying62 h
  obtain ⟨a, ea, _⟩ := DataW.trod_int Try.underlying3 h0
  obtain ⟨l, u, el⟩ := itv_cells h1
  have hl2 : cs.length = 3 := hl.trans (by kernel_rfl)
  match cs, hl2 with
  | [c0, c1, c2], _ =>
    have e0 : c0 = .int .i64 a := by
      have := ea
      rw [show Try.prog.cellsOf 3 = 1 by kernel_rfl] at this
      simpa using this
    have e1 : c1 = .int .i64 l ∧ c2 = .int .i64 u := by
      have := el
      rw [show Try.prog.cellsOf 29 = 2 by kernel_rfl] at this
      simpa using this
    exact ⟨a, l, u, by rw [e0, e1.1, e1.2]⟩
set_option maxRecDepth 100000 in
theorem put_of {r : Reach} {b0 : Nat} {v : Value} {d : DataW H} {p : List MemPlace} (hv : Value.okWide Try.prog w r b0 62 v) (h : DataW.Trod enc Try.prog w base spare held 62 v d p) :
    ∃ t l u : Int, v = .agg #[.int .i64 t, .int .i64 l, .int .i64 u] := by
  obtain ⟨cs, rfl, hsz⟩ := okWide_struct Try.underlying62 hv
  obtain ⟨c0, c1, c2, rfl⟩ := array3 (hsz.trans (show _ = 3 by kernel_rfl))
  obtain ⟨fuel, hf⟩ := h
  obtain ⟨t, l, u, e⟩ := put_cells hf
  have e' : [c0, c1, c2] = [.int .i64 t, .int .i64 l, .int .i64 u] := by simpa [Value.cells] using e
  injection e' with e0 e'
  injection e' with e1 e'
  injection e' with e2 _
  exact ⟨t, l, u, by rw [e0, e1, e2]⟩
theorem list_of {α : Type} {P : Nat → α → Prop} : ∀ (n : Nat), (∀ i, i < n → ∃ x, P i x) → ∃ l : List α, l.length = n ∧ ∀ i x, l[i]? = some x → P i x
  | 0, _ => ⟨[], rfl, fun i x h => by simp at h⟩
  | n + 1, h => by
    obtain ⟨l, hl, hp⟩ := list_of n (fun i hi => h i (by omega))
    obtain ⟨x, hx⟩ := h n (by omega)
    refine ⟨l ++ [x], by simp [hl], fun i y hy => ?_⟩
    by_cases hi : i < n
    · rw [List.getElem?_append_left (by omega)] at hy
      exact hp i y hy
    · rw [List.getElem?_append_right (by omega)] at hy
      by_cases he : i = n
      · subst he
        rw [hl, Nat.sub_self] at hy
        cases hy
        exact hx
      · rw [List.getElem?_eq_none (by simp; omega)] at hy
        cases hy
theorem cell_in' {a : Addr} {v : Value} (h : w.cell? a = some v) : a.block < w.heap.size := by
  rcases Nat.lt_or_ge a.block w.heap.size with h1 | h1
  · exact h1
  · have h2 : w.heap[a.block]? = none := Array.getElem?_eq_none h1
    simp [World.cell?, h2] at h
set_option maxRecDepth 100000 in
theorem puts_of {a : Option Addr} {len cap : Nat} {d : DataW H} {p : List MemPlace} (h : DataW.Trod enc Try.prog w base spare held 22 (.slice a len cap) d p) :
    ∃ ps, ps.length = len ∧ TRow w a ps ∧ len ≤ 9223372036854775807 := by
  obtain ⟨fuel, hf⟩ := h
  rcases open_slice Try.underlying22 hf with ⟨hcs, _⟩ | ⟨x, l, c, m, n, D, Pl, hcs, _, hl, hc, hm, _, hx⟩
  · simp [Value.cells] at hcs
    exact ⟨[], hcs.2.1.symm, .inl rfl, by omega⟩
  · simp [Value.cells] at hcs
    obtain ⟨rfl, rfl, rfl⟩ := hcs
    have hmax : maxLen ≤ 9223372036854775807 := by decide +kernel
    have hlm : len ≤ m := by rw [hm]; split <;> omega
    have h3 : Try.prog.cellsOf 62 = 3 := by kernel_rfl
    rw [h3] at hx
    obtain ⟨ps, hpl, hps⟩ := list_of (P := fun i (q : Int × Int × Int) => w.cell? (x.add (i * 3)) = some (.int .i64 q.1) ∧ w.cell? ⟨(x.add (i * 3)).block, (x.add (i * 3)).off + 1, none⟩ = some (.int .i64 q.2.1) ∧ w.cell? ⟨(x.add (i * 3)).block, (x.add (i * 3)).off + 2, none⟩ = some (.int .i64 q.2.2)) len (fun i hi => by
      obtain ⟨cs', h1, h2⟩ := hx i (by omega)
      obtain ⟨t, l, u, rfl⟩ := put_cells h2
      obtain ⟨_, _, hcell⟩ := World.cells?_some h1
      have c0 := hcell 0 (by omega)
      have c1 := hcell 1 (by omega)
      have c2 := hcell 2 (by omega)
      rw [Addr.add_add] at c0 c1 c2
      refine ⟨(t, l, u), by simpa using c0, ?_, ?_⟩
      · rw [← add_one]
        simpa using c1
      · have e2 : x.add (i * 3 + 2) = ⟨(x.add (i * 3)).block, (x.add (i * 3)).off + 2, none⟩ := by rw [← Addr.add_add]; rfl
        rw [← e2]
        simpa using c2)
    refine ⟨ps, hpl, ?_, by omega⟩
    by_cases h0 : len = 0
    · exact .inl (List.length_eq_zero_iff.mp (hpl.trans h0))
    · refine .inr ⟨x, rfl, ?_, fun k t l u hk => hps k _ hk⟩
      obtain ⟨q, hq⟩ : ∃ q, ps[0]? = some q := ⟨_, List.getElem?_eq_getElem (by omega)⟩
      have := cell_in' (hps 0 q hq).1
      rwa [add_block] at this
end
end Go.Proofs.Ytgepaajhccadhaa
