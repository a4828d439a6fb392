/-
  How long a row that comes in may be.
-/
import Derived.Test.YtbcbcambkjhhhaaCk
import Derived.ChangeArms
namespace Go.Proofs.Ytbcbcambkjhhhaa.Sx.Z
open Go.RowKit
theorem raw_len {H : Type} {enc : TypeId × Value → H} {W : World} {v0 : Value} {d0 : DataW H} {p0 : List MemPlace} (h0 : DataW.Trod enc Try.prog W 0 (fun _ => true) true 55 v0 d0 p0) (hz : ∀ x ∈ DataW.weights Try.prog 55 d0, x ≤ reachBytes) {a : Option Addr} {n c : Nat} (hc : v0.cells.toList[2]? = some (.slice a n c)) : n ≤ 8796093022208 := by
  obtain ⟨fuel, hf⟩ := h0
  obtain ⟨xs, m, rfl, hx, hl, hxl, hel⟩ := DataW.trod_struct Try.underlying55 hf
  match xs, hxl with
  | [x0, x1], _ =>
    have h1 := hel 1 _ rfl
    have hcs : (v0.cells.toList.drop 2).take (Try.prog.cellsOf 53) = [.slice a n c] := by
      rw [show Try.prog.cellsOf 53 = 1 by kernel_rfl]
      have hl3 : v0.cells.toList.length = 3 := hl.trans (by kernel_rfl)
      match hv : v0.cells.toList, hl3 with
      | [u0, u1, u2], _ =>
        rw [hv] at hc
        obtain rfl := Option.some.inj hc
        rfl
    have h1 : DataW.trod enc Try.prog W 0 (fun _ => true) true m 53 ((v0.cells.toList.drop 2).take (Try.prog.cellsOf 53)) = some x1 := h1
    rw [hcs] at h1
    rcases DataW.trod_slice Try.underlying53 h1 with ⟨e1, _⟩ | ⟨a', len, cap, elems, rest, m', _, e1, e2, _, _, _, hel', _⟩
    · cases e1; omega
    · cases e1
      have hd : d0 = .agg [x0.1, .slice (elems.map (·.1)) (rest.map (·.1))] := by
        have := congrArg Prod.fst hx
        rw [e2] at this
        exact this
      subst hd
      have h2 : ((elems.map (·.1)).length + (rest.map (·.1)).length) * Try.prog.bytesOf 52 ≤ reachBytes := by
        refine hz _ ?_
        simp only [DataW.weights, Try.underlying55]
        show _ ∈ DataW.weightsEach Try.prog [52, 53] _
        simp only [DataW.weightsEach, DataW.weights, Try.underlying53]
        exact List.mem_append_right _ (List.mem_append_left _ (List.mem_cons_self ..))
      rw [show Try.prog.bytesOf 52 = 16 by kernel_rfl, List.length_map] at h2
      have h3 : reachBytes = 140737488351232 := rfl
      omega
end Go.Proofs.Ytbcbcambkjhhhaa.Sx.Z
