/-
  Do of sums and differences, and of nothing; Neg; what every law of layer 8 asks.
-/
import Derived.Test.YtgepaajhccadhaaIc
namespace Go.Proofs.Ytgepaajhccadhaa
open Go.RowKit
theorem nrm_in (l h : Int) (hh : l ≤ h) : nrm l h = (l, h) := if_neg (by omega)
theorem ofP_in (l h : Int) (h1 : -2147483648 ≤ l) (h2 : h ≤ 2147483647) (hh : l ≤ h) : ofP l h = (l, h) := by
  unfold ofP mx mn
  rw [nrm_in _ _ (by split <;> split <;> omega)]
  congr 1 <;> split <;> omega
theorem const_in (n : Int) (w : World) (h1 : -2147483648 ≤ n) (h2 : n ≤ 2147483647) :
    Calls Try.prog 14 #[.int .i64 n] w fun e w' => e = .returned (.agg #[.int .i64 n, .int .i64 n]) ∧ Below w.heap.size w w' := by
  have h := const_any n w
  rwa [ofP_in n n h1 h2 (Int.le_refl n)] at h
theorem of_in (l h : Int) (w : World) (h1 : -2147483648 ≤ l) (h2 : h ≤ 2147483647) (hh : l ≤ h) :
    Calls Try.prog 33 #[.int .i64 l, .int .i64 h] w fun e w' => e = .returned (.agg #[.int .i64 l, .int .i64 h]) ∧ Below w.heap.size w w' := by
  have h := of_any l h w
  rwa [ofP_in l _ h1 h2 hh] at h

/-- Two cells of a block, and how many blocks there are. -/
theorem cells_keep {n m : Nat} {a b : Value} {W W' : World} (h : W.cell? ⟨n, 0, none⟩ = some a ∧ W.cell? ⟨n, 1, none⟩ = some b ∧ n + m + 1 ≤ W.heap.size) (hB : Below W.heap.size W W') : W'.cell? ⟨n, 0, none⟩ = some a ∧ W'.cell? ⟨n, 1, none⟩ = some b ∧ n + m + 1 ≤ W'.heap.size :=
  ⟨(hB.cell (p := ⟨n, 0, none⟩) (by show n < _; omega)).trans h.1, (hB.cell (p := ⟨n, 1, none⟩) (by show n < _; omega)).trans h.2.1, Nat.le_trans h.2.2 hB.size⟩
theorem cells_put {n m k : Nat} {a b u v : Value} {W : World} (h : W.cell? ⟨n, 0, none⟩ = some a ∧ W.cell? ⟨n, 1, none⟩ = some b ∧ n + m + 1 ≤ W.heap.size) (hk : n < k) : ((W.setCell ⟨k, 0, none⟩ u).setCell ⟨k, 1, none⟩ v).cell? ⟨n, 0, none⟩ = some a ∧ ((W.setCell ⟨k, 0, none⟩ u).setCell ⟨k, 1, none⟩ v).cell? ⟨n, 1, none⟩ = some b ∧ n + m + 1 ≤ ((W.setCell ⟨k, 0, none⟩ u).setCell ⟨k, 1, none⟩ v).heap.size := by
  have hB : Below k W ((W.setCell ⟨k, 0, none⟩ u).setCell ⟨k, 1, none⟩ v) := ((Below.refl _ W).setCell (p := ⟨k, 0, none⟩) (Nat.le_refl k) u).setCell (p := ⟨k, 1, none⟩) (Nat.le_refl k) v
  exact ⟨(hB.cell (p := ⟨n, 0, none⟩) hk).trans h.1, (hB.cell (p := ⟨n, 1, none⟩) hk).trans h.2.1, Nat.le_trans h.2.2 hB.size⟩

def S4 (n : Nat) (W : World) : Prop := W.cell? ⟨n, 0, none⟩ = some (.int .i64 2147483647) ∧ W.cell? ⟨n, 1, none⟩ = some (.int .i64 2147483647) ∧ W.cell? ⟨n + 1, 0, none⟩ = some (.bool true) ∧ W.cell? ⟨n + 1, 1, none⟩ = some (.bool false) ∧ n + 1 < W.heap.size
theorem cells4_keep {n : Nat} {W W' : World} (h : S4 n W) (hB : Below W.heap.size W W') : S4 n W' :=
  ⟨(hB.cell (p := ⟨n, 0, none⟩) (Nat.lt_of_succ_lt h.2.2.2.2)).trans h.1, (hB.cell (p := ⟨n, 1, none⟩) (Nat.lt_of_succ_lt h.2.2.2.2)).trans h.2.1, (hB.cell (p := ⟨n + 1, 0, none⟩) h.2.2.2.2).trans h.2.2.1, (hB.cell (p := ⟨n + 1, 1, none⟩) h.2.2.2.2).trans h.2.2.2.1, Nat.lt_of_lt_of_le h.2.2.2.2 hB.size⟩
end Go.Proofs.Ytgepaajhccadhaa
