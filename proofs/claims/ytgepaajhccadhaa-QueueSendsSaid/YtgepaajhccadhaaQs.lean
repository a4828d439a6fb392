/-
  The reference's Same, of two that are the same.
-/
import Derived.Test.YtgepaajhccadhaaQnR
namespace Go.Proofs.Ytgepaajhccadhaa
open Go.RowKit
def SmRel (w : World) (l h : Int) (A B : Option Addr) (n c c' : Nat) (vi : Value) (wr : World) : Prop := ∃ k : Nat, k ≤ n ∧ vi = .int .i64 k ∧ wr.heap[w.heap.size]? = some (.cells #[.int .i64 l, .int .i64 h, .slice A n c] 32 (0, 0)) ∧ wr.heap[w.heap.size + 1]? = some (.cells #[.int .i64 l, .int .i64 h, .slice B n c'] 32 (0, 0)) ∧ Below w.heap.size w wr
set_option maxRecDepth 100000 in
set_option maxHeartbeats 4000000 in
theorem same_row (l h : Int) (A B : Option Addr) (n c c' : Nat) (xs : List (Int × Int)) (w : World) (hn : xs.length = n) (hs : n ≤ 1048576) (hx : PRow w A xs) (hy : PRow w B xs) :
    Calls Try.prog 19 #[.agg #[.int .i64 l, .int .i64 h, .slice A n c], .agg #[.int .i64 l, .int .i64 h, .slice B n c']] w fun e w' => e = .returned (.bool true) ∧ Below w.heap.size w w' := by
  replace hx := Lib.hid hx
  replace hy := Lib.hid hy
  replace hn := Lib.hid hn
  go_enter Try.func19, Try.ntmps19
  go_wp2_with fail
  go_loopw [5] (fun vi wr => SmRel w l h A B n c c' vi wr) (fun i _ => n - (intOf i).toNat)
  case atStart => exact ⟨0, Nat.zero_le _, rfl, blkUp (blkA _ _ rfl) _, blkA _ _ (by simp only [World.size_alloc]), ((Below.refl _ _).alloc (Nat.le_refl _) _).alloc (by simp only [World.size_alloc]; omega) _⟩
  case round =>
    obtain ⟨k, hk, rfl, k0, k1, hB⟩ := hrel
    by_cases hlt : k < n
    · have hlt2 : (k : Int) < (n : Int) := by omega
      have hk0 : (0 : Int) ≤ (k : Int) := by omega
      have hkb : (k : Int) ≤ 1048576 := by omega
      obtain ⟨p0, p1, hp⟩ := pair_at hn.out hlt
      obtain ⟨a, rfl, hab, a0, a1⟩ := prow_at (prow_keep hx.out hB) hp
      obtain ⟨b, rfl, hbb, b0, b1⟩ := prow_at (prow_keep hy.out hB) hp
      replace hp := Lib.hid hp
      have r0 := row_of k0
      have z0 := blk_lt k0
      have r1 := row_of k1
      have z1 := blk_lt k1
      go_upto_region 6 with fail
      clear r0 z0 r1 z1
      have mkS : ∀ W, Below wr.heap.size wr W → W.cell? ⟨w.heap.size, 2, none⟩ = some (.slice (some a) n c) ∧ W.cell? ⟨w.heap.size + 1, 2, none⟩ = some (.slice (some b) n c') ∧ W.cell? (a.add (k * 2)) = some (.int .i64 p0) ∧ W.cell? ⟨(a.add (k * 2)).block, (a.add (k * 2)).off + 1, none⟩ = some (.int .i64 p1) ∧ W.cell? (b.add (k * 2)) = some (.int .i64 p0) ∧ W.cell? ⟨(b.add (k * 2)).block, (b.add (k * 2)).off + 1, none⟩ = some (.int .i64 p1) := fun W h => ⟨row_of (blk_keep h k0) 2, row_of (blk_keep h k1) 2, (h.cell (p := a.add (k * 2)) hab).trans a0, (h.cell (p := ⟨(a.add (k * 2)).block, (a.add (k * 2)).off + 1, none⟩) hab).trans a1, (h.cell (p := b.add (k * 2)) hbb).trans b0, (h.cell (p := ⟨(b.add (k * 2)).block, (b.add (k * 2)).off + 1, none⟩) hbb).trans b1⟩
      have hBn := Below.refl wr.heap.size wr
      have s0 := k0
      have s1 := k1
      clear k0 k1 a0 a1 b0 b1
      go_region_held3 (fun W => W.cell? ⟨w.heap.size, 2, none⟩ = some (.slice (some a) n c) ∧ W.cell? ⟨w.heap.size + 1, 2, none⟩ = some (.slice (some b) n c') ∧ W.cell? (a.add (k * 2)) = some (.int .i64 p0) ∧ W.cell? ⟨(a.add (k * 2)).block, (a.add (k * 2)).off + 1, none⟩ = some (.int .i64 p1) ∧ W.cell? (b.add (k * 2)) = some (.int .i64 p0) ∧ W.cell? ⟨(b.add (k * 2)).block, (b.add (k * 2)).off + 1, none⟩ = some (.int .i64 p1))
        (first | (with_reducible exact mkS _ hBn) | (with_reducible exact mkS _ (Below.drew hBn)))
        (fail)
      clear mkS hab hbb
      go_wp2_with fail
      exact ⟨⟨k + 1, by omega, by go_num, s0, s1, hB.drew⟩, by simp [intOf]; omega⟩
    · have hlt2 : ¬ (k : Int) < (n : Int) := by omega
      have r0 := row_of k0
      have z0 := blk_lt k0
      go_wp2_with fail
      go_ret
      exact ⟨rfl, hB⟩
end Go.Proofs.Ytgepaajhccadhaa
