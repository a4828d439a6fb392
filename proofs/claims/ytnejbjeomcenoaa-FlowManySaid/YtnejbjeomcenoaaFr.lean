/-
  builds, the examples of every law of flow: true, whatever the memory is.
-/
import Derived.Test.YtnejbjeomcenoaaFq
namespace Go.Proofs.Ytnejbjeomcenoaa
open Go.RowKit

theorem own_form' {w : World} {b : Nat} {e : TypeId} {size n ce : Nat} {A : Option Addr} {xs : List Value} (h : w.ownsRow b e size (.slice A (n + 1) ce) (n + 1) xs) : ∃ g, A = some ⟨g, 0, none⟩ := by
  rcases h.2 with ⟨_, h0⟩ | ⟨g, cap, cur, hv, _⟩
  · omega
  · injection hv with h1 h2 h3
    exact ⟨g, h1⟩
theorem own_cap {w : World} {b g : Nat} {e : TypeId} {size n ce : Nat} {xs : List Value} (h : w.ownsRow b e size (.slice (some ⟨g, 0, none⟩) n ce) n xs) : n ≤ ce := by
  rcases h.2 with ⟨h1, _⟩ | ⟨_, _, _, h1, _, _, h2, _⟩
  · cases h1
  · cases h1; exact h2
/-- What an assignment of 3 to the first variable lays. -/
def asgF (_ : Nat) (a b : Int) (s : Ls) : Ls := { s with ne := s.ne + 1, es := s.es ++ [.int .i64 a, .int .i64 b, .int .i64 1, .int .i64 0, .int .i64 0, .int .i64 0, .int .i64 1, .int .i64 3, .int .i64 0, .slice none 0 0, .int .i64 0, .int .i64 0, .int .i64 0, .int .i64 0, .slice none 0 0, .int .i64 0, .int .i64 0, .int .i64 0, .slice none 0 0] }
theorem asg_lays (W : World) (base : Nat) (i : Nat) : StLay W base [.int .i64 1, .int .i64 0, .int .i64 0, .int .i64 0, .int .i64 1, .int .i64 3, .int .i64 0, .slice none 0 0, .int .i64 0, .int .i64 0, .int .i64 0, .int .i64 0, .slice none 0 0, .int .i64 0, .int .i64 0, .int .i64 0, .slice none 0 0, .slice none 0 0, .slice none 0 0, .slice none 0 0] (asgF i) := fun W' g s a b _ hL hn h0 h1 =>
  (lay_asg W' base g s.N s.ne s.es s.nh s.hs 0 3 a b hL (by omega)).mono fun e w' ⟨he, hl, hb⟩ => ⟨he, hl, hb⟩
theorem asg_S : bodyF asgF 1 1 0 0 ls0 = ⟨2, 1, [.int .i64 0, .int .i64 1, .int .i64 1, .int .i64 0, .int .i64 0, .int .i64 0, .int .i64 1, .int .i64 3, .int .i64 0, .slice none 0 0, .int .i64 0, .int .i64 0, .int .i64 0, .int .i64 0, .slice none 0 0, .int .i64 0, .int .i64 0, .int .i64 0, .slice none 0 0], 0, []⟩ := by kernel_rfl
theorem asg_N (i : Nat) (a b : Int) (s : Ls) : s.N ≤ (asgF i a b s).N ∧ (asgF i a b s).N ≤ s.N + 1000 := by unfold asgF; constructor <;> simp <;> omega

set_option maxRecDepth 100000 in
set_option maxHeartbeats 8000000 in
theorem builds_any (w : World) : Calls Try.prog 7 #[] w fun e w' => e = .returned (.bool true) ∧ Below w.heap.size w w' := by
  go_enter Try.func7, Try.ntmps7
  go_wp2_with fail
  have hk0 : ((w.alloc (.cells #[.int .i64 1, .int .i64 0, .int .i64 0, .int .i64 0, .int .i64 1, .int .i64 3, .int .i64 0, .slice none 0 0, .int .i64 0, .int .i64 0, .int .i64 0, .int .i64 0, .slice none 0 0, .int .i64 0, .int .i64 0, .int .i64 0, .slice none 0 0, .slice none 0 0, .slice none 0 0, .slice none 0 0] 40)).alloc (.cells #[.int .i64 1, .slice (some ⟨w.heap.size, 0, none⟩) 1 1] 28)).heap[w.heap.size]? = some (.cells #[.int .i64 1, .int .i64 0, .int .i64 0, .int .i64 0, .int .i64 1, .int .i64 3, .int .i64 0, .slice none 0 0, .int .i64 0, .int .i64 0, .int .i64 0, .int .i64 0, .slice none 0 0, .int .i64 0, .int .i64 0, .int .i64 0, .slice none 0 0, .slice none 0 0, .slice none 0 0, .slice none 0 0] 40 (0, 0)) := blkUp (blkA _ _ rfl) _
  have hk1 : ((w.alloc (.cells #[.int .i64 1, .int .i64 0, .int .i64 0, .int .i64 0, .int .i64 1, .int .i64 3, .int .i64 0, .slice none 0 0, .int .i64 0, .int .i64 0, .int .i64 0, .int .i64 0, .slice none 0 0, .int .i64 0, .int .i64 0, .int .i64 0, .slice none 0 0, .slice none 0 0, .slice none 0 0, .slice none 0 0] 40)).alloc (.cells #[.int .i64 1, .slice (some ⟨w.heap.size, 0, none⟩) 1 1] 28)).heap[w.heap.size + 1]? = some (.cells #[.int .i64 1, .slice (some ⟨w.heap.size, 0, none⟩) 1 1] 28 (0, 0)) := blkA _ _ (by simp)
  have hB0 : Below w.heap.size w ((w.alloc (.cells #[.int .i64 1, .int .i64 0, .int .i64 0, .int .i64 0, .int .i64 1, .int .i64 3, .int .i64 0, .slice none 0 0, .int .i64 0, .int .i64 0, .int .i64 0, .int .i64 0, .slice none 0 0, .int .i64 0, .int .i64 0, .int .i64 0, .slice none 0 0, .slice none 0 0, .slice none 0 0, .slice none 0 0] 40)).alloc (.cells #[.int .i64 1, .slice (some ⟨w.heap.size, 0, none⟩) 1 1] 28)) := ((Below.refl _ _).alloc (Nat.le_refl _) _).alloc (by simp) _
  generalize (w.alloc (.cells #[.int .i64 1, .int .i64 0, .int .i64 0, .int .i64 0, .int .i64 1, .int .i64 3, .int .i64 0, .slice none 0 0, .int .i64 0, .int .i64 0, .int .i64 0, .int .i64 0, .slice none 0 0, .int .i64 0, .int .i64 0, .int .i64 0, .slice none 0 0, .slice none 0 0, .slice none 0 0, .slice none 0 0] 40)).alloc (.cells #[.int .i64 1, .slice (some ⟨w.heap.size, 0, none⟩) 1 1] 28) = w0 at *
  have hem : ElemsAt w0 w0.heap.size (some ⟨w.heap.size, 0, none⟩) 1 20 (fun _ => [.int .i64 1, .int .i64 0, .int .i64 0, .int .i64 0, .int .i64 1, .int .i64 3, .int .i64 0, .slice none 0 0, .int .i64 0, .int .i64 0, .int .i64 0, .int .i64 0, .slice none 0 0, .int .i64 0, .int .i64 0, .int .i64 0, .slice none 0 0, .slice none 0 0, .slice none 0 0, .slice none 0 0]) := fun i hi => by
    obtain rfl : i = 0 := by omega
    exact ⟨w.heap.size, rfl, blk_lt hk0, fun j v hv => by rw [Nat.zero_mul, Nat.zero_add]; exact (row_of hk0 j).trans (by simpa using hv), rfl, List.all_eq_true.1 (show List.all ([.int .i64 1, .int .i64 0, .int .i64 0, .int .i64 0, .int .i64 1, .int .i64 3, .int .i64 0, .slice none 0 0, .int .i64 0, .int .i64 0, .int .i64 0, .int .i64 0, .slice none 0 0, .int .i64 0, .int .i64 0, .int .i64 0, .slice none 0 0, .slice none 0 0, .slice none 0 0, .slice none 0 0] : List Value) (·.oneCell') = true by kernel_rfl)⟩
  refine (build_one 1 (w.heap.size + 1) 1 (some ⟨w.heap.size, 0, none⟩) 1 1 (fun _ => [.int .i64 1, .int .i64 0, .int .i64 0, .int .i64 0, .int .i64 1, .int .i64 3, .int .i64 0, .slice none 0 0, .int .i64 0, .int .i64 0, .int .i64 0, .int .i64 0, .slice none 0 0, .int .i64 0, .int .i64 0, .int .i64 0, .slice none 0 0, .slice none 0 0, .slice none 0 0, .slice none 0 0]) w0 (by decide) (by decide) (by decide) (by decide) (by decide) (by decide) (blk_lt hk1) (fun j v hv => by rw [Nat.zero_add]; exact (row_of hk1 j).trans (by simpa using hv)) hem
    (fun i hi W hW => stmt_asg none 0 0 0 1 0 3 (by decide) (by decide) (by decide) (by decide) W) asgF (fun i hi W base _ _ => asg_lays W base i) asg_N _ asg_S (by decide) (by decide)).mono ?_
  rintro e w1 ⟨E, H, ce, ch, G, cg, V, cv, rfl, hE, hH, hG, hV, hb1⟩
  obtain ⟨x0, rfl⟩ := own_form' hE
  have hB1 : Below w.heap.size w w1 := hB0.trans (hb1.mono hB0.size)
  clear hem hk0 hk1 hb1 hB0 hH
  have hEr := range_of_own hE
  have hGr := range_of_own hG
  have hEl := (hE.lt x0 rfl).2
  have hGl := (hG.lt G rfl).2
  have hVl := (hV.lt V rfl).2
  have v0 : w1.cell? ⟨V, 0, none⟩ = some (.int .i64 1) := hV.cells rfl 0 _ rfl
  have g0 : w1.cell? ⟨G, 0, none⟩ = some (.int .i64 2) := hG.cells rfl 0 _ rfl
  have g1 : w1.cell? ⟨G, 1, none⟩ = some (.slice (some ⟨x0, 0, none⟩) 1 ce) := hG.cells rfl 1 _ rfl
  have e1 : w1.cell? ⟨x0, 1, none⟩ = some (.int .i64 1) := hE.cells rfl 1 _ rfl
  have hce := own_cap hE
  have hcg := own_cap hG
  have hcv := own_cap hV
  replace hEr := Lib.hid hEr
  replace hGr := Lib.hid hGr
  clear hE hG hV
  go_wp2_with fail
  have hba : Below w1.heap.size w1 (w1.alloc (.cells #[.slice none 0 0, .slice (some ⟨G, 0, none⟩) 1 cg, .slice (some ⟨V, 0, none⟩) 1 cv] 44)) := (Below.refl _ _).alloc (Nat.le_refl _) _
  refine (graph_right G cg V cv x0 ce _ hcg hcv hce (by simp; omega) (by simp; omega) (by simp; omega) (range_keep hba hGl hGr.out) ((hba.cell (p := ⟨V, 0, none⟩) hVl).trans v0) (range_keep hba hEl hEr.out)).mono ?_
  rintro e w2 ⟨rfl, hb2⟩
  have hB2 : Below w.heap.size w w2 := (hB1.trans (hba.mono hB1.size)).trans (hb2.mono (Nat.le_trans hB1.size hba.size))
  go_wp2_with fail
  refine (not_three _).mono ?_
  rintro e w3 ⟨rfl, rfl⟩
  go_wp2_with fail
  go_ret
  exact ⟨rfl, hB2⟩
end Go.Proofs.Ytnejbjeomcenoaa

