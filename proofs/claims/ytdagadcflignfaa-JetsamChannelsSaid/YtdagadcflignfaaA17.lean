/-
  slices.Repeat of the empty Itv, one to four times.; queue.None: of one to four tags.; queue.None, each, Join, Widen; the law's From.; The reference's calls on channels; the law's From and to.; The reference's Has and Same; a row of sends.; A row of sends: build.
-/
import Derived.Test.YtdagadcflignfaaA16
namespace Go.Proofs.Ytdagadcflignfaa
open Go.RowKit
/-- A row of so many empty Itvs, made anew. -/
def Nones (w : World) (n : Nat) (e : Ending) (w' : World) : Prop := ∃ g, e = .returned (.slice (some ⟨g, 0, none⟩) n n) ∧ ElemAt w' w.heap.size 82 g n (List.replicate n (1, 0)) ∧ Below w.heap.size w w' 
theorem mul_1 (w : World) : Calls Try.prog 77 #[.int .u64 1, .int .u64 1] w fun e w' => e = .returned (.tuple #[.int .u64 0, .int .u64 1]) ∧ w = w' := by
  go_enter Try.func77, Try.ntmps77
  go_wp2
  go_ret2
  exact ⟨by kernel_rfl, rfl⟩
set_option maxRecDepth 100000 in
set_option maxHeartbeats 2000000 in
theorem repeat_1 (b : Nat) (w : World) (hb : w.heap[b]? = some (.cells #[.int .i64 1, .int .i64 0] 82 (0, 0))) :
    Calls Try.prog 47 #[.slice (some ⟨b, 0, none⟩) 1 1, .int .i64 1] w (Nones w 1) := by
  have hmk : ∀ w, (Instr.makeSlice 83 (.int .i64 1) (.int .i64 1)).run Try.prog w = .ok (.slice (some ⟨w.heap.size, 0, none⟩) 1 1) (w.alloc (.cells #[.int .i64 0, .int .i64 0] 82)) := fun _ => by kernel_rfl
  go_enter Try.func47, Try.ntmps47
  go_wp2_with fail
  refine (mul_1 _).mono ?_
  rintro e w' ⟨rfl, rfl⟩
  go_upto_region 7 with fail
  refine wp_world (fun W => W.heap[b]? = some (.cells #[.int .i64 1, .int .i64 0] 82 (0, 0)) ∧ W.heap[w.heap.size]? = some (.cells #[.int .i64 0, .int .i64 0] 82 (0, 0)) ∧ Below w.heap.size w W) ⟨blkUp hb _, blkA _ _ rfl, (Below.refl _ _).alloc (Nat.le_refl _) _⟩ ?_
  clear hmk
  rintro w1 ⟨kb, k0, hB⟩
  have sb : ∀ (j : Nat) (v : Value), ([.int .i64 1, .int .i64 0] : List Value)[j]? = some v → w1.cell? ((⟨b, 0, none⟩ : Addr).add j) = some v := fun j v h => by
    match j, h with
    | 0, h => exact (row_of kb 0).trans h
    | 1, h => exact (row_of kb 1).trans h
    | j + 2, h => simp at h
  replace sb := Lib.hid sb
  go_wp2_with (refine wpList_copy_sz rfl _ _ _ _ rfl 82 Try.underlying83 2 size_itv w.heap.size 0 1 1 ⟨b, 0, none⟩ 1 1 1 (by rfl) (by rfl) _ _ k0 [.int .i64 1, .int .i64 0] (by rfl) (by rfl) sb.out (by simp) (by simp [Value.oneCell']) #[.int .i64 1, .int .i64 0] (by rfl) (blk_lt k0) ?_; intro w2 k2 hb2)
  replace hB := hB.trans hb2
  clear hb2 k0 kb sb
  refine wp_loop_rounds 1 ?_
  rw [rounds_succ]
  go_wp2_with fail
  go_ret
  exact ⟨w.heap.size, rfl, ⟨by rfl, .inr ⟨w.heap.size, 1, _, rfl, Nat.le_refl _, k2, Nat.le_refl _, by unfold maxLen; decide, by rfl, by rfl⟩⟩, hB⟩
theorem mul_2 (w : World) : Calls Try.prog 77 #[.int .u64 1, .int .u64 2] w fun e w' => e = .returned (.tuple #[.int .u64 0, .int .u64 2]) ∧ w = w' := by
  go_enter Try.func77, Try.ntmps77
  go_wp2
  go_ret2
  exact ⟨by kernel_rfl, rfl⟩
set_option maxRecDepth 100000 in
set_option maxHeartbeats 2000000 in
theorem repeat_2 (b : Nat) (w : World) (hb : w.heap[b]? = some (.cells #[.int .i64 1, .int .i64 0] 82 (0, 0))) :
    Calls Try.prog 47 #[.slice (some ⟨b, 0, none⟩) 1 1, .int .i64 2] w (Nones w 2) := by
  have hmk : ∀ w, (Instr.makeSlice 83 (.int .i64 2) (.int .i64 2)).run Try.prog w = .ok (.slice (some ⟨w.heap.size, 0, none⟩) 2 2) (w.alloc (.cells #[.int .i64 0, .int .i64 0, .int .i64 0, .int .i64 0] 82)) := fun _ => by kernel_rfl
  go_enter Try.func47, Try.ntmps47
  go_wp2_with fail
  refine (mul_2 _).mono ?_
  rintro e w' ⟨rfl, rfl⟩
  go_upto_region 7 with fail
  refine wp_world (fun W => W.heap[b]? = some (.cells #[.int .i64 1, .int .i64 0] 82 (0, 0)) ∧ W.heap[w.heap.size]? = some (.cells #[.int .i64 0, .int .i64 0, .int .i64 0, .int .i64 0] 82 (0, 0)) ∧ Below w.heap.size w W) ⟨blkUp hb _, blkA _ _ rfl, (Below.refl _ _).alloc (Nat.le_refl _) _⟩ ?_
  clear hmk
  rintro w1 ⟨kb, k0, hB⟩
  have sb : ∀ (j : Nat) (v : Value), ([.int .i64 1, .int .i64 0] : List Value)[j]? = some v → w1.cell? ((⟨b, 0, none⟩ : Addr).add j) = some v := fun j v h => by
    match j, h with
    | 0, h => exact (row_of kb 0).trans h
    | 1, h => exact (row_of kb 1).trans h
    | j + 2, h => simp at h
  replace sb := Lib.hid sb
  go_wp2_with (refine wpList_copy_sz rfl _ _ _ _ rfl 82 Try.underlying83 2 size_itv w.heap.size 0 2 2 ⟨b, 0, none⟩ 1 1 1 (by rfl) (by rfl) _ _ k0 [.int .i64 1, .int .i64 0] (by rfl) (by rfl) sb.out (by simp) (by simp [Value.oneCell']) #[.int .i64 1, .int .i64 0, .int .i64 0, .int .i64 0] (by rfl) (blk_lt k0) ?_; intro w2 k2 hb2)
  replace hB := hB.trans hb2
  clear hb2 k0 kb sb
  refine wp_loop_rounds 2 ?_
  rw [rounds_succ]
  go_upto_region 9 with fail
  have kd2 : w2.drew.heap[w.heap.size]? = some (.cells #[.int .i64 1, .int .i64 0, .int .i64 0, .int .i64 0] 82 (0, 0)) := k2
  have sc : ∀ (j : Nat) (v : Value), ([.int .i64 1, .int .i64 0] : List Value)[j]? = some v → w2.drew.cell? ((⟨w.heap.size, 0, none⟩ : Addr).add j) = some v := fun j v h => by
    match j, h with
    | 0, h => exact (row_of kd2 0).trans h
    | 1, h => exact (row_of kd2 1).trans h
    | j + 2, h => simp at h
  replace sc := Lib.hid sc
  go_region_law (first
    | (refine step_copy_sz (by rfl) _ _ _ _ (by rfl) 82 Try.underlying83 2 size_itv w.heap.size 2 1 1 ⟨w.heap.size, 0, none⟩ 1 2 1 (by go_simp) (by go_simp) _ _ kd2 [.int .i64 1, .int .i64 0] (by rfl) (by rfl) sc.out (by simp) (by simp [Value.oneCell']) #[.int .i64 1, .int .i64 0, .int .i64 1, .int .i64 0] (by rfl) (blk_lt kd2) ?_; intro w3 k3 hb3))
  replace hB := (hB.drew).trans hb3
  clear hb3 k2 sc kd2
  go_wp2_with fail
  rw [rounds_succ]
  go_wp2_with fail
  go_ret
  exact ⟨w.heap.size, rfl, ⟨by rfl, .inr ⟨w.heap.size, 2, _, rfl, Nat.le_refl _, k3, Nat.le_refl _, by unfold maxLen; decide, by rfl, by rfl⟩⟩, hB⟩
theorem mul_3 (w : World) : Calls Try.prog 77 #[.int .u64 1, .int .u64 3] w fun e w' => e = .returned (.tuple #[.int .u64 0, .int .u64 3]) ∧ w = w' := by
  go_enter Try.func77, Try.ntmps77
  go_wp2
  go_ret2
  exact ⟨by kernel_rfl, rfl⟩
set_option maxRecDepth 100000 in
set_option maxHeartbeats 2000000 in
theorem repeat_3 (b : Nat) (w : World) (hb : w.heap[b]? = some (.cells #[.int .i64 1, .int .i64 0] 82 (0, 0))) :
    Calls Try.prog 47 #[.slice (some ⟨b, 0, none⟩) 1 1, .int .i64 3] w (Nones w 3) := by
  have hmk : ∀ w, (Instr.makeSlice 83 (.int .i64 3) (.int .i64 3)).run Try.prog w = .ok (.slice (some ⟨w.heap.size, 0, none⟩) 3 3) (w.alloc (.cells #[.int .i64 0, .int .i64 0, .int .i64 0, .int .i64 0, .int .i64 0, .int .i64 0] 82)) := fun _ => by kernel_rfl
  go_enter Try.func47, Try.ntmps47
  go_wp2_with fail
  refine (mul_3 _).mono ?_
  rintro e w' ⟨rfl, rfl⟩
  go_upto_region 7 with fail
  refine wp_world (fun W => W.heap[b]? = some (.cells #[.int .i64 1, .int .i64 0] 82 (0, 0)) ∧ W.heap[w.heap.size]? = some (.cells #[.int .i64 0, .int .i64 0, .int .i64 0, .int .i64 0, .int .i64 0, .int .i64 0] 82 (0, 0)) ∧ Below w.heap.size w W) ⟨blkUp hb _, blkA _ _ rfl, (Below.refl _ _).alloc (Nat.le_refl _) _⟩ ?_
  clear hmk
  rintro w1 ⟨kb, k0, hB⟩
  have sb : ∀ (j : Nat) (v : Value), ([.int .i64 1, .int .i64 0] : List Value)[j]? = some v → w1.cell? ((⟨b, 0, none⟩ : Addr).add j) = some v := fun j v h => by
    match j, h with
    | 0, h => exact (row_of kb 0).trans h
    | 1, h => exact (row_of kb 1).trans h
    | j + 2, h => simp at h
  replace sb := Lib.hid sb
  go_wp2_with (refine wpList_copy_sz rfl _ _ _ _ rfl 82 Try.underlying83 2 size_itv w.heap.size 0 3 3 ⟨b, 0, none⟩ 1 1 1 (by rfl) (by rfl) _ _ k0 [.int .i64 1, .int .i64 0] (by rfl) (by rfl) sb.out (by simp) (by simp [Value.oneCell']) #[.int .i64 1, .int .i64 0, .int .i64 0, .int .i64 0, .int .i64 0, .int .i64 0] (by rfl) (blk_lt k0) ?_; intro w2 k2 hb2)
  replace hB := hB.trans hb2
  clear hb2 k0 kb sb
  refine wp_loop_rounds 3 ?_
  rw [rounds_succ]
  go_upto_region 9 with fail
  have kd2 : w2.drew.heap[w.heap.size]? = some (.cells #[.int .i64 1, .int .i64 0, .int .i64 0, .int .i64 0, .int .i64 0, .int .i64 0] 82 (0, 0)) := k2
  have sc : ∀ (j : Nat) (v : Value), ([.int .i64 1, .int .i64 0] : List Value)[j]? = some v → w2.drew.cell? ((⟨w.heap.size, 0, none⟩ : Addr).add j) = some v := fun j v h => by
    match j, h with
    | 0, h => exact (row_of kd2 0).trans h
    | 1, h => exact (row_of kd2 1).trans h
    | j + 2, h => simp at h
  replace sc := Lib.hid sc
  go_region_law (first
    | (refine step_copy_sz (by rfl) _ _ _ _ (by rfl) 82 Try.underlying83 2 size_itv w.heap.size 2 2 2 ⟨w.heap.size, 0, none⟩ 1 3 1 (by go_simp) (by go_simp) _ _ kd2 [.int .i64 1, .int .i64 0] (by rfl) (by rfl) sc.out (by simp) (by simp [Value.oneCell']) #[.int .i64 1, .int .i64 0, .int .i64 1, .int .i64 0, .int .i64 0, .int .i64 0] (by rfl) (blk_lt kd2) ?_; intro w3 k3 hb3))
  replace hB := (hB.drew).trans hb3
  clear hb3 k2 sc kd2
  go_wp2_with fail
  rw [rounds_succ]
  go_upto_region 9 with fail
  have kd3 : w3.drew.heap[w.heap.size]? = some (.cells #[.int .i64 1, .int .i64 0, .int .i64 1, .int .i64 0, .int .i64 0, .int .i64 0] 82 (0, 0)) := k3
  have sc : ∀ (j : Nat) (v : Value), ([.int .i64 1, .int .i64 0] : List Value)[j]? = some v → w3.drew.cell? ((⟨w.heap.size, 0, none⟩ : Addr).add j) = some v := fun j v h => by
    match j, h with
    | 0, h => exact (row_of kd3 0).trans h
    | 1, h => exact (row_of kd3 1).trans h
    | j + 2, h => simp at h
  replace sc := Lib.hid sc
  go_region_law (first
    | (refine step_copy_sz (by rfl) _ _ _ _ (by rfl) 82 Try.underlying83 2 size_itv w.heap.size 4 1 1 ⟨w.heap.size, 0, none⟩ 2 3 1 (by go_simp) (by go_simp) _ _ kd3 [.int .i64 1, .int .i64 0] (by rfl) (by rfl) sc.out (by simp) (by simp [Value.oneCell']) #[.int .i64 1, .int .i64 0, .int .i64 1, .int .i64 0, .int .i64 1, .int .i64 0] (by rfl) (blk_lt kd3) ?_; intro w4 k4 hb4))
  replace hB := (hB.drew).trans hb4
  clear hb4 k3 sc kd3
  go_wp2_with fail
  rw [rounds_succ]
  go_wp2_with fail
  go_ret
  exact ⟨w.heap.size, rfl, ⟨by rfl, .inr ⟨w.heap.size, 3, _, rfl, Nat.le_refl _, k4, Nat.le_refl _, by unfold maxLen; decide, by rfl, by rfl⟩⟩, hB⟩
theorem mul_4 (w : World) : Calls Try.prog 77 #[.int .u64 1, .int .u64 4] w fun e w' => e = .returned (.tuple #[.int .u64 0, .int .u64 4]) ∧ w = w' := by
  go_enter Try.func77, Try.ntmps77
  go_wp2
  go_ret2
  exact ⟨by kernel_rfl, rfl⟩
set_option maxRecDepth 100000 in
set_option maxHeartbeats 2000000 in
theorem repeat_4 (b : Nat) (w : World) (hb : w.heap[b]? = some (.cells #[.int .i64 1, .int .i64 0] 82 (0, 0))) :
    Calls Try.prog 47 #[.slice (some ⟨b, 0, none⟩) 1 1, .int .i64 4] w (Nones w 4) := by
  have hmk : ∀ w, (Instr.makeSlice 83 (.int .i64 4) (.int .i64 4)).run Try.prog w = .ok (.slice (some ⟨w.heap.size, 0, none⟩) 4 4) (w.alloc (.cells #[.int .i64 0, .int .i64 0, .int .i64 0, .int .i64 0, .int .i64 0, .int .i64 0, .int .i64 0, .int .i64 0] 82)) := fun _ => by kernel_rfl
  go_enter Try.func47, Try.ntmps47
  go_wp2_with fail
  refine (mul_4 _).mono ?_
  rintro e w' ⟨rfl, rfl⟩
  go_upto_region 7 with fail
  refine wp_world (fun W => W.heap[b]? = some (.cells #[.int .i64 1, .int .i64 0] 82 (0, 0)) ∧ W.heap[w.heap.size]? = some (.cells #[.int .i64 0, .int .i64 0, .int .i64 0, .int .i64 0, .int .i64 0, .int .i64 0, .int .i64 0, .int .i64 0] 82 (0, 0)) ∧ Below w.heap.size w W) ⟨blkUp hb _, blkA _ _ rfl, (Below.refl _ _).alloc (Nat.le_refl _) _⟩ ?_
  clear hmk
  rintro w1 ⟨kb, k0, hB⟩
  have sb : ∀ (j : Nat) (v : Value), ([.int .i64 1, .int .i64 0] : List Value)[j]? = some v → w1.cell? ((⟨b, 0, none⟩ : Addr).add j) = some v := fun j v h => by
    match j, h with
    | 0, h => exact (row_of kb 0).trans h
    | 1, h => exact (row_of kb 1).trans h
    | j + 2, h => simp at h
  replace sb := Lib.hid sb
  go_wp2_with (refine wpList_copy_sz rfl _ _ _ _ rfl 82 Try.underlying83 2 size_itv w.heap.size 0 4 4 ⟨b, 0, none⟩ 1 1 1 (by rfl) (by rfl) _ _ k0 [.int .i64 1, .int .i64 0] (by rfl) (by rfl) sb.out (by simp) (by simp [Value.oneCell']) #[.int .i64 1, .int .i64 0, .int .i64 0, .int .i64 0, .int .i64 0, .int .i64 0, .int .i64 0, .int .i64 0] (by rfl) (blk_lt k0) ?_; intro w2 k2 hb2)
  replace hB := hB.trans hb2
  clear hb2 k0 kb sb
  refine wp_loop_rounds 3 ?_
  rw [rounds_succ]
  go_upto_region 9 with fail
  have kd2 : w2.drew.heap[w.heap.size]? = some (.cells #[.int .i64 1, .int .i64 0, .int .i64 0, .int .i64 0, .int .i64 0, .int .i64 0, .int .i64 0, .int .i64 0] 82 (0, 0)) := k2
  have sc : ∀ (j : Nat) (v : Value), ([.int .i64 1, .int .i64 0] : List Value)[j]? = some v → w2.drew.cell? ((⟨w.heap.size, 0, none⟩ : Addr).add j) = some v := fun j v h => by
    match j, h with
    | 0, h => exact (row_of kd2 0).trans h
    | 1, h => exact (row_of kd2 1).trans h
    | j + 2, h => simp at h
  replace sc := Lib.hid sc
  go_region_law (first
    | (refine step_copy_sz (by rfl) _ _ _ _ (by rfl) 82 Try.underlying83 2 size_itv w.heap.size 2 3 3 ⟨w.heap.size, 0, none⟩ 1 4 1 (by go_simp) (by go_simp) _ _ kd2 [.int .i64 1, .int .i64 0] (by rfl) (by rfl) sc.out (by simp) (by simp [Value.oneCell']) #[.int .i64 1, .int .i64 0, .int .i64 1, .int .i64 0, .int .i64 0, .int .i64 0, .int .i64 0, .int .i64 0] (by rfl) (blk_lt kd2) ?_; intro w3 k3 hb3))
  replace hB := (hB.drew).trans hb3
  clear hb3 k2 sc kd2
  go_wp2_with fail
  rw [rounds_succ]
  go_upto_region 9 with fail
  have kd3 : w3.drew.heap[w.heap.size]? = some (.cells #[.int .i64 1, .int .i64 0, .int .i64 1, .int .i64 0, .int .i64 0, .int .i64 0, .int .i64 0, .int .i64 0] 82 (0, 0)) := k3
  have sc : ∀ (j : Nat) (v : Value), ([.int .i64 1, .int .i64 0, .int .i64 1, .int .i64 0] : List Value)[j]? = some v → w3.drew.cell? ((⟨w.heap.size, 0, none⟩ : Addr).add j) = some v := fun j v h => by
    match j, h with
    | 0, h => exact (row_of kd3 0).trans h
    | 1, h => exact (row_of kd3 1).trans h
    | 2, h => exact (row_of kd3 2).trans h
    | 3, h => exact (row_of kd3 3).trans h
    | j + 4, h => simp at h
  replace sc := Lib.hid sc
  go_region_law (first
    | (refine step_copy_sz (by rfl) _ _ _ _ (by rfl) 82 Try.underlying83 2 size_itv w.heap.size 4 2 2 ⟨w.heap.size, 0, none⟩ 2 4 2 (by go_simp) (by go_simp) _ _ kd3 [.int .i64 1, .int .i64 0, .int .i64 1, .int .i64 0] (by rfl) (by rfl) sc.out (by simp) (by simp [Value.oneCell']) #[.int .i64 1, .int .i64 0, .int .i64 1, .int .i64 0, .int .i64 1, .int .i64 0, .int .i64 1, .int .i64 0] (by rfl) (blk_lt kd3) ?_; intro w4 k4 hb4))
  replace hB := (hB.drew).trans hb4
  clear hb4 k3 sc kd3
  go_wp2_with fail
  rw [rounds_succ]
  go_wp2_with fail
  go_ret
  exact ⟨w.heap.size, rfl, ⟨by rfl, .inr ⟨w.heap.size, 4, _, rfl, Nat.le_refl _, k4, Nat.le_refl _, by unfold maxLen; decide, by rfl, by rfl⟩⟩, hB⟩
end Go.Proofs.Ytdagadcflignfaa
namespace Go.Proofs.Ytdagadcflignfaa
open Go.RowKit
/-- An Elem that is told: how many messages, and a row of one's own of so many Itvs. -/
def ElemOut (w : World) (l h : Int) (xs : List (Int × Int)) (e : Ending) (w' : World) : Prop := ∃ g cap, e = .returned (.agg #[.int .i64 l, .int .i64 h, .slice (some ⟨g, 0, none⟩) xs.length cap]) ∧ ElemAt w' w.heap.size 82 g cap xs ∧ Below w.heap.size w w'
theorem elem_base {W : World} {b b' : Nat} {t : TypeId} {g cap : Nat} {xs : List (Int × Int)} (h : ElemAt W b' t g cap xs) (hb : b ≤ b') : ElemAt W b t g cap xs := by
  refine ⟨h.1, ?_⟩
  rcases h.2 with h0 | ⟨g', cap', cur, e, hg, h1⟩
  · exact .inl h0
  · exact .inr ⟨g', cap', cur, e, Nat.le_trans hb hg, h1⟩
theorem elem_same {W W' : World} {b : Nat} {t : TypeId} {g cap : Nat} {xs : List (Int × Int)} (h : ElemAt W b t g cap xs) (hk : ∀ x, W.heap[g]? = some x → W'.heap[g]? = some x) : ElemAt W' b t g cap xs := own_same h hk
theorem elem_ge {W : World} {b : Nat} {t : TypeId} {g cap : Nat} {xs : List (Int × Int)} (h : ElemAt W b t g cap xs) : b ≤ g ∧ g < W.heap.size := h.lt g rfl
set_option maxRecDepth 100000 in
set_option maxHeartbeats 2000000 in
theorem none_1 (ck cs cf ct : Int) (R : Option Addr) (rn rc : Nat) (w : World) :
    Calls Try.prog 22 #[.agg #[.int .i64 ck, .int .i64 cs, .int .i64 cf, .int .i64 ct, .int .i64 1, .slice R rn rc]] w (ElemOut w 0 0 (List.replicate 1 (1, 0))) := by
  have c0 := Lib.hid (fun W => const_in 0 W (by decide) (by decide))
  go_enter Try.func22, Try.ntmps22
  go_upto_region 1 with fail
  refine wp_world (fun W => W.heap[w.heap.size]? = some (.cells #[.int .i64 ck, .int .i64 cs, .int .i64 cf, .int .i64 ct, .int .i64 1, .slice R rn rc] 80 (0, 0)) ∧ W.heap[w.heap.size + 1]? = some (.cells #[.int .i64 0, .int .i64 0, .slice none 0 0] 85 (0, 0)) ∧ Below w.heap.size w W) ⟨blkUp (blkA _ _ (by first | rfl | simp only [World.size_alloc])) _, blkA _ _ (by first | rfl | simp only [World.size_alloc]), ((Below.refl _ _).alloc (by first | exact Nat.le_refl _ | (simp only [World.size_alloc]; omega)) _).alloc (by first | exact Nat.le_refl _ | (simp only [World.size_alloc]; omega)) _⟩ ?_
  rintro w1 ⟨k0, k1, hB⟩
  have r0 := row_of k0
  have f0 := frozen_of k0
  have z0 := blk_lt k0
  have r1 := row_of k1
  have f1 := frozen_of k1
  have z1 := blk_lt k1
  go_wp2_with fail
  refine (c0.out _).mono ?_
  rintro e w2 ⟨rfl, hb⟩
  replace k0 := blk_keep hb k0
  replace k1 := blk_keep hb k1
  replace hB := hB.trans (hb.mono hB.size)
  clear r0 f0 z0 r1 f1 z1
  clear hb
  have r0 := row_of k0
  have f0 := frozen_of k0
  have z0 := blk_lt k0
  have r1 := row_of k1
  have f1 := frozen_of k1
  have z1 := blk_lt k1
  go_upto_region 2 with fail
  have hz1_0 : w.heap.size < w2.heap.size := blk_lt k0
  have hz1_1 : w.heap.size + 1 < w2.heap.size := blk_lt k1
  refine wp_world (fun W => W.heap[w.heap.size]? = some (.cells #[.int .i64 ck, .int .i64 cs, .int .i64 cf, .int .i64 ct, .int .i64 1, .slice R rn rc] 80 (0, 0)) ∧ W.heap[w.heap.size + 1]? = some (.cells #[.int .i64 0, .int .i64 0, .slice none 0 0] 85 (0, 0)) ∧ W.heap[w2.heap.size]? = some (.cells #[.int .i64 0, .int .i64 0, .slice none 0 0] 85 (0, 0)) ∧ Below w.heap.size w W) ⟨blkUp (k0) _, blkUp (k1) _, blkA _ _ (by first | rfl | simp only [World.size_alloc]), (hB).alloc (by first | exact hB.size | (simp only [World.size_alloc]; omega)) _⟩ ?_
  clear r0 f0 z0 r1 f1 z1
  clear hB k0 k1
  rintro w3 ⟨k0, k1, k2, hB⟩
  have r0 := row_of k0
  have f0 := frozen_of k0
  have z0 := blk_lt k0
  have r1 := row_of k1
  have f1 := frozen_of k1
  have z1 := blk_lt k1
  have r2 := row_of k2
  have f2 := frozen_of k2
  have z2 := blk_lt k2
  go_upto_region 3 with fail
  clear r0 f0 z0 r1 f1 z1 r2 f2 z2
  have tn0 : w.heap.size + 1 < w2.heap.size := by omega
  replace hB := hB.drew
  have s0 : w3.drew.heap[w.heap.size]? = some (.cells #[.int .i64 ck, .int .i64 cs, .int .i64 cf, .int .i64 ct, .int .i64 1, .slice R rn rc] 80 (0, 0)) := k0
  have s1 : w3.drew.heap[w.heap.size + 1]? = some (.cells #[.int .i64 0, .int .i64 0, .slice none 0 0] 85 (0, 0)) := k1
  have s2 : w3.drew.heap[w2.heap.size]? = some (.cells #[.int .i64 0, .int .i64 0, .slice none 0 0] 85 (0, 0)) := k2
  clear k0 k1 k2
  have hS0 : w3.drew.cell? ⟨w.heap.size, 4, none⟩ = some (.int .i64 1) := row_of s0 4
  go_region_held3 (fun W => W.cell? ⟨w.heap.size, 4, none⟩ = some (.int .i64 1))
      (first | assumption | exact hS0 | exact row_of s0 4 | exact row_of (blkUp s0 _) 4 | exact (row_of (blk_set s0 (by omega)) 4))
      (first
        | (go_at_call 48; (with_reducible refine (none_any _).mono ?_); rintro e wn ⟨rfl, hbS⟩; replace s0 := blk_keep hbS s0; replace s1 := blk_keep hbS s1; replace s2 := blk_keep hbS s2; replace hB := hB.trans (hbS.mono hB.size); have hS1 : wn.cell? ⟨w.heap.size, 4, none⟩ = some (.int .i64 1) := row_of s0 4)
        | (go_at_call 47; refine (repeat_1 _ _ (blkA _ _ rfl)).mono ?_; rintro e wm ⟨gg, rfl, hE, hbS⟩; replace s0 := blk_keep hbS (blkUp s0 _); replace s1 := blk_keep hbS (blkUp s1 _); have t2 := blk_lt s2; replace s2 := blk_keep hbS (blkUp s2 _); replace hB := (hB.alloc hB.size _).trans (hbS.mono (Nat.le_trans hB.size (by simp only [World.size_alloc]; omega))); have hS2 : wm.cell? ⟨w.heap.size, 4, none⟩ = some (.int .i64 1) := row_of s0 4; have r2 := row_of s2; have f2 := frozen_of s2; have z2 := blk_lt s2; have r1 := row_of s1; have f1 := frozen_of s1; have z1 := blk_lt s1; have tn : w.heap.size + 1 < w2.heap.size := tn0; have hE2 := Lib.hid (elem_base hE (show w2.heap.size + 1 ≤ _ by simp only [World.size_alloc]; omega)); clear hE))
  go_wp2_with fail
  generalize hWF : (World.setCell (World.setCell (World.setCell (World.setCell _ _ _) _ _) _ _) _ _) = WF
  obtain ⟨kF, kO, bF, _⟩ := put3 (blk_set s1 (by omega)) _ _ _ hWF.symm
  clear hWF r1 f1 r2 f2
  have rF := row_of kF
  have q := elem_ge hE2.out
  exact bodyPost_ret (v := .agg #[.int .i64 0, .int .i64 0, .slice (some ⟨gg, 0, none⟩) 1 1]) (by simp [results, Try.results22, go_sem, rF]) rfl ⟨gg, 1, rfl, elem_base (elem_same hE2.out (fun x hx => kO _ x (by omega) (blk_set hx (by omega)))) (by omega), (hB.setCell (p := ⟨w2.heap.size, 2, none⟩) (by show w.heap.size ≤ w2.heap.size; omega) _).trans (bF _ (by omega))⟩
set_option maxRecDepth 100000 in
set_option maxHeartbeats 2000000 in
theorem none_2 (ck cs cf ct : Int) (R : Option Addr) (rn rc : Nat) (w : World) :
    Calls Try.prog 22 #[.agg #[.int .i64 ck, .int .i64 cs, .int .i64 cf, .int .i64 ct, .int .i64 2, .slice R rn rc]] w (ElemOut w 0 0 (List.replicate 2 (1, 0))) := by
  have c0 := Lib.hid (fun W => const_in 0 W (by decide) (by decide))
  go_enter Try.func22, Try.ntmps22
  go_upto_region 1 with fail
  refine wp_world (fun W => W.heap[w.heap.size]? = some (.cells #[.int .i64 ck, .int .i64 cs, .int .i64 cf, .int .i64 ct, .int .i64 2, .slice R rn rc] 80 (0, 0)) ∧ W.heap[w.heap.size + 1]? = some (.cells #[.int .i64 0, .int .i64 0, .slice none 0 0] 85 (0, 0)) ∧ Below w.heap.size w W) ⟨blkUp (blkA _ _ (by first | rfl | simp only [World.size_alloc])) _, blkA _ _ (by first | rfl | simp only [World.size_alloc]), ((Below.refl _ _).alloc (by first | exact Nat.le_refl _ | (simp only [World.size_alloc]; omega)) _).alloc (by first | exact Nat.le_refl _ | (simp only [World.size_alloc]; omega)) _⟩ ?_
  rintro w1 ⟨k0, k1, hB⟩
  have r0 := row_of k0
  have f0 := frozen_of k0
  have z0 := blk_lt k0
  have r1 := row_of k1
  have f1 := frozen_of k1
  have z1 := blk_lt k1
  go_wp2_with fail
  refine (c0.out _).mono ?_
  rintro e w2 ⟨rfl, hb⟩
  replace k0 := blk_keep hb k0
  replace k1 := blk_keep hb k1
  replace hB := hB.trans (hb.mono hB.size)
  clear r0 f0 z0 r1 f1 z1
  clear hb
  have r0 := row_of k0
  have f0 := frozen_of k0
  have z0 := blk_lt k0
  have r1 := row_of k1
  have f1 := frozen_of k1
  have z1 := blk_lt k1
  go_upto_region 2 with fail
  have hz1_0 : w.heap.size < w2.heap.size := blk_lt k0
  have hz1_1 : w.heap.size + 1 < w2.heap.size := blk_lt k1
  refine wp_world (fun W => W.heap[w.heap.size]? = some (.cells #[.int .i64 ck, .int .i64 cs, .int .i64 cf, .int .i64 ct, .int .i64 2, .slice R rn rc] 80 (0, 0)) ∧ W.heap[w.heap.size + 1]? = some (.cells #[.int .i64 0, .int .i64 0, .slice none 0 0] 85 (0, 0)) ∧ W.heap[w2.heap.size]? = some (.cells #[.int .i64 0, .int .i64 0, .slice none 0 0] 85 (0, 0)) ∧ Below w.heap.size w W) ⟨blkUp (k0) _, blkUp (k1) _, blkA _ _ (by first | rfl | simp only [World.size_alloc]), (hB).alloc (by first | exact hB.size | (simp only [World.size_alloc]; omega)) _⟩ ?_
  clear r0 f0 z0 r1 f1 z1
  clear hB k0 k1
  rintro w3 ⟨k0, k1, k2, hB⟩
  have r0 := row_of k0
  have f0 := frozen_of k0
  have z0 := blk_lt k0
  have r1 := row_of k1
  have f1 := frozen_of k1
  have z1 := blk_lt k1
  have r2 := row_of k2
  have f2 := frozen_of k2
  have z2 := blk_lt k2
  go_upto_region 3 with fail
  clear r0 f0 z0 r1 f1 z1 r2 f2 z2
  have tn0 : w.heap.size + 1 < w2.heap.size := by omega
  replace hB := hB.drew
  have s0 : w3.drew.heap[w.heap.size]? = some (.cells #[.int .i64 ck, .int .i64 cs, .int .i64 cf, .int .i64 ct, .int .i64 2, .slice R rn rc] 80 (0, 0)) := k0
  have s1 : w3.drew.heap[w.heap.size + 1]? = some (.cells #[.int .i64 0, .int .i64 0, .slice none 0 0] 85 (0, 0)) := k1
  have s2 : w3.drew.heap[w2.heap.size]? = some (.cells #[.int .i64 0, .int .i64 0, .slice none 0 0] 85 (0, 0)) := k2
  clear k0 k1 k2
  have hS0 : w3.drew.cell? ⟨w.heap.size, 4, none⟩ = some (.int .i64 2) := row_of s0 4
  go_region_held3 (fun W => W.cell? ⟨w.heap.size, 4, none⟩ = some (.int .i64 2))
      (first | assumption | exact hS0 | exact row_of s0 4 | exact row_of (blkUp s0 _) 4 | exact (row_of (blk_set s0 (by omega)) 4))
      (first
        | (go_at_call 48; (with_reducible refine (none_any _).mono ?_); rintro e wn ⟨rfl, hbS⟩; replace s0 := blk_keep hbS s0; replace s1 := blk_keep hbS s1; replace s2 := blk_keep hbS s2; replace hB := hB.trans (hbS.mono hB.size); have hS1 : wn.cell? ⟨w.heap.size, 4, none⟩ = some (.int .i64 2) := row_of s0 4)
        | (go_at_call 47; refine (repeat_2 _ _ (blkA _ _ rfl)).mono ?_; rintro e wm ⟨gg, rfl, hE, hbS⟩; replace s0 := blk_keep hbS (blkUp s0 _); replace s1 := blk_keep hbS (blkUp s1 _); have t2 := blk_lt s2; replace s2 := blk_keep hbS (blkUp s2 _); replace hB := (hB.alloc hB.size _).trans (hbS.mono (Nat.le_trans hB.size (by simp only [World.size_alloc]; omega))); have hS2 : wm.cell? ⟨w.heap.size, 4, none⟩ = some (.int .i64 2) := row_of s0 4; have r2 := row_of s2; have f2 := frozen_of s2; have z2 := blk_lt s2; have r1 := row_of s1; have f1 := frozen_of s1; have z1 := blk_lt s1; have tn : w.heap.size + 1 < w2.heap.size := tn0; have hE2 := Lib.hid (elem_base hE (show w2.heap.size + 1 ≤ _ by simp only [World.size_alloc]; omega)); clear hE))
  go_wp2_with fail
  generalize hWF : (World.setCell (World.setCell (World.setCell (World.setCell _ _ _) _ _) _ _) _ _) = WF
  obtain ⟨kF, kO, bF, _⟩ := put3 (blk_set s1 (by omega)) _ _ _ hWF.symm
  clear hWF r1 f1 r2 f2
  have rF := row_of kF
  have q := elem_ge hE2.out
  exact bodyPost_ret (v := .agg #[.int .i64 0, .int .i64 0, .slice (some ⟨gg, 0, none⟩) 2 2]) (by simp [results, Try.results22, go_sem, rF]) rfl ⟨gg, 2, rfl, elem_base (elem_same hE2.out (fun x hx => kO _ x (by omega) (blk_set hx (by omega)))) (by omega), (hB.setCell (p := ⟨w2.heap.size, 2, none⟩) (by show w.heap.size ≤ w2.heap.size; omega) _).trans (bF _ (by omega))⟩
set_option maxRecDepth 100000 in
set_option maxHeartbeats 2000000 in
theorem none_3 (ck cs cf ct : Int) (R : Option Addr) (rn rc : Nat) (w : World) :
    Calls Try.prog 22 #[.agg #[.int .i64 ck, .int .i64 cs, .int .i64 cf, .int .i64 ct, .int .i64 3, .slice R rn rc]] w (ElemOut w 0 0 (List.replicate 3 (1, 0))) := by
  have c0 := Lib.hid (fun W => const_in 0 W (by decide) (by decide))
  go_enter Try.func22, Try.ntmps22
  go_upto_region 1 with fail
  refine wp_world (fun W => W.heap[w.heap.size]? = some (.cells #[.int .i64 ck, .int .i64 cs, .int .i64 cf, .int .i64 ct, .int .i64 3, .slice R rn rc] 80 (0, 0)) ∧ W.heap[w.heap.size + 1]? = some (.cells #[.int .i64 0, .int .i64 0, .slice none 0 0] 85 (0, 0)) ∧ Below w.heap.size w W) ⟨blkUp (blkA _ _ (by first | rfl | simp only [World.size_alloc])) _, blkA _ _ (by first | rfl | simp only [World.size_alloc]), ((Below.refl _ _).alloc (by first | exact Nat.le_refl _ | (simp only [World.size_alloc]; omega)) _).alloc (by first | exact Nat.le_refl _ | (simp only [World.size_alloc]; omega)) _⟩ ?_
  rintro w1 ⟨k0, k1, hB⟩
  have r0 := row_of k0
  have f0 := frozen_of k0
  have z0 := blk_lt k0
  have r1 := row_of k1
  have f1 := frozen_of k1
  have z1 := blk_lt k1
  go_wp2_with fail
  refine (c0.out _).mono ?_
  rintro e w2 ⟨rfl, hb⟩
  replace k0 := blk_keep hb k0
  replace k1 := blk_keep hb k1
  replace hB := hB.trans (hb.mono hB.size)
  clear r0 f0 z0 r1 f1 z1
  clear hb
  have r0 := row_of k0
  have f0 := frozen_of k0
  have z0 := blk_lt k0
  have r1 := row_of k1
  have f1 := frozen_of k1
  have z1 := blk_lt k1
  go_upto_region 2 with fail
  have hz1_0 : w.heap.size < w2.heap.size := blk_lt k0
  have hz1_1 : w.heap.size + 1 < w2.heap.size := blk_lt k1
  refine wp_world (fun W => W.heap[w.heap.size]? = some (.cells #[.int .i64 ck, .int .i64 cs, .int .i64 cf, .int .i64 ct, .int .i64 3, .slice R rn rc] 80 (0, 0)) ∧ W.heap[w.heap.size + 1]? = some (.cells #[.int .i64 0, .int .i64 0, .slice none 0 0] 85 (0, 0)) ∧ W.heap[w2.heap.size]? = some (.cells #[.int .i64 0, .int .i64 0, .slice none 0 0] 85 (0, 0)) ∧ Below w.heap.size w W) ⟨blkUp (k0) _, blkUp (k1) _, blkA _ _ (by first | rfl | simp only [World.size_alloc]), (hB).alloc (by first | exact hB.size | (simp only [World.size_alloc]; omega)) _⟩ ?_
  clear r0 f0 z0 r1 f1 z1
  clear hB k0 k1
  rintro w3 ⟨k0, k1, k2, hB⟩
  have r0 := row_of k0
  have f0 := frozen_of k0
  have z0 := blk_lt k0
  have r1 := row_of k1
  have f1 := frozen_of k1
  have z1 := blk_lt k1
  have r2 := row_of k2
  have f2 := frozen_of k2
  have z2 := blk_lt k2
  go_upto_region 3 with fail
  clear r0 f0 z0 r1 f1 z1 r2 f2 z2
  have tn0 : w.heap.size + 1 < w2.heap.size := by omega
  replace hB := hB.drew
  have s0 : w3.drew.heap[w.heap.size]? = some (.cells #[.int .i64 ck, .int .i64 cs, .int .i64 cf, .int .i64 ct, .int .i64 3, .slice R rn rc] 80 (0, 0)) := k0
  have s1 : w3.drew.heap[w.heap.size + 1]? = some (.cells #[.int .i64 0, .int .i64 0, .slice none 0 0] 85 (0, 0)) := k1
  have s2 : w3.drew.heap[w2.heap.size]? = some (.cells #[.int .i64 0, .int .i64 0, .slice none 0 0] 85 (0, 0)) := k2
  clear k0 k1 k2
  have hS0 : w3.drew.cell? ⟨w.heap.size, 4, none⟩ = some (.int .i64 3) := row_of s0 4
  go_region_held3 (fun W => W.cell? ⟨w.heap.size, 4, none⟩ = some (.int .i64 3))
      (first | assumption | exact hS0 | exact row_of s0 4 | exact row_of (blkUp s0 _) 4 | exact (row_of (blk_set s0 (by omega)) 4))
      (first
        | (go_at_call 48; (with_reducible refine (none_any _).mono ?_); rintro e wn ⟨rfl, hbS⟩; replace s0 := blk_keep hbS s0; replace s1 := blk_keep hbS s1; replace s2 := blk_keep hbS s2; replace hB := hB.trans (hbS.mono hB.size); have hS1 : wn.cell? ⟨w.heap.size, 4, none⟩ = some (.int .i64 3) := row_of s0 4)
        | (go_at_call 47; refine (repeat_3 _ _ (blkA _ _ rfl)).mono ?_; rintro e wm ⟨gg, rfl, hE, hbS⟩; replace s0 := blk_keep hbS (blkUp s0 _); replace s1 := blk_keep hbS (blkUp s1 _); have t2 := blk_lt s2; replace s2 := blk_keep hbS (blkUp s2 _); replace hB := (hB.alloc hB.size _).trans (hbS.mono (Nat.le_trans hB.size (by simp only [World.size_alloc]; omega))); have hS2 : wm.cell? ⟨w.heap.size, 4, none⟩ = some (.int .i64 3) := row_of s0 4; have r2 := row_of s2; have f2 := frozen_of s2; have z2 := blk_lt s2; have r1 := row_of s1; have f1 := frozen_of s1; have z1 := blk_lt s1; have tn : w.heap.size + 1 < w2.heap.size := tn0; have hE2 := Lib.hid (elem_base hE (show w2.heap.size + 1 ≤ _ by simp only [World.size_alloc]; omega)); clear hE))
  go_wp2_with fail
  generalize hWF : (World.setCell (World.setCell (World.setCell (World.setCell _ _ _) _ _) _ _) _ _) = WF
  obtain ⟨kF, kO, bF, _⟩ := put3 (blk_set s1 (by omega)) _ _ _ hWF.symm
  clear hWF r1 f1 r2 f2
  have rF := row_of kF
  have q := elem_ge hE2.out
  exact bodyPost_ret (v := .agg #[.int .i64 0, .int .i64 0, .slice (some ⟨gg, 0, none⟩) 3 3]) (by simp [results, Try.results22, go_sem, rF]) rfl ⟨gg, 3, rfl, elem_base (elem_same hE2.out (fun x hx => kO _ x (by omega) (blk_set hx (by omega)))) (by omega), (hB.setCell (p := ⟨w2.heap.size, 2, none⟩) (by show w.heap.size ≤ w2.heap.size; omega) _).trans (bF _ (by omega))⟩
set_option maxRecDepth 100000 in
set_option maxHeartbeats 2000000 in
theorem none_4 (ck cs cf ct : Int) (R : Option Addr) (rn rc : Nat) (w : World) :
    Calls Try.prog 22 #[.agg #[.int .i64 ck, .int .i64 cs, .int .i64 cf, .int .i64 ct, .int .i64 4, .slice R rn rc]] w (ElemOut w 0 0 (List.replicate 4 (1, 0))) := by
  have c0 := Lib.hid (fun W => const_in 0 W (by decide) (by decide))
  go_enter Try.func22, Try.ntmps22
  go_upto_region 1 with fail
  refine wp_world (fun W => W.heap[w.heap.size]? = some (.cells #[.int .i64 ck, .int .i64 cs, .int .i64 cf, .int .i64 ct, .int .i64 4, .slice R rn rc] 80 (0, 0)) ∧ W.heap[w.heap.size + 1]? = some (.cells #[.int .i64 0, .int .i64 0, .slice none 0 0] 85 (0, 0)) ∧ Below w.heap.size w W) ⟨blkUp (blkA _ _ (by first | rfl | simp only [World.size_alloc])) _, blkA _ _ (by first | rfl | simp only [World.size_alloc]), ((Below.refl _ _).alloc (by first | exact Nat.le_refl _ | (simp only [World.size_alloc]; omega)) _).alloc (by first | exact Nat.le_refl _ | (simp only [World.size_alloc]; omega)) _⟩ ?_
  rintro w1 ⟨k0, k1, hB⟩
  have r0 := row_of k0
  have f0 := frozen_of k0
  have z0 := blk_lt k0
  have r1 := row_of k1
  have f1 := frozen_of k1
  have z1 := blk_lt k1
  go_wp2_with fail
  refine (c0.out _).mono ?_
  rintro e w2 ⟨rfl, hb⟩
  replace k0 := blk_keep hb k0
  replace k1 := blk_keep hb k1
  replace hB := hB.trans (hb.mono hB.size)
  clear r0 f0 z0 r1 f1 z1
  clear hb
  have r0 := row_of k0
  have f0 := frozen_of k0
  have z0 := blk_lt k0
  have r1 := row_of k1
  have f1 := frozen_of k1
  have z1 := blk_lt k1
  go_upto_region 2 with fail
  have hz1_0 : w.heap.size < w2.heap.size := blk_lt k0
  have hz1_1 : w.heap.size + 1 < w2.heap.size := blk_lt k1
  refine wp_world (fun W => W.heap[w.heap.size]? = some (.cells #[.int .i64 ck, .int .i64 cs, .int .i64 cf, .int .i64 ct, .int .i64 4, .slice R rn rc] 80 (0, 0)) ∧ W.heap[w.heap.size + 1]? = some (.cells #[.int .i64 0, .int .i64 0, .slice none 0 0] 85 (0, 0)) ∧ W.heap[w2.heap.size]? = some (.cells #[.int .i64 0, .int .i64 0, .slice none 0 0] 85 (0, 0)) ∧ Below w.heap.size w W) ⟨blkUp (k0) _, blkUp (k1) _, blkA _ _ (by first | rfl | simp only [World.size_alloc]), (hB).alloc (by first | exact hB.size | (simp only [World.size_alloc]; omega)) _⟩ ?_
  clear r0 f0 z0 r1 f1 z1
  clear hB k0 k1
  rintro w3 ⟨k0, k1, k2, hB⟩
  have r0 := row_of k0
  have f0 := frozen_of k0
  have z0 := blk_lt k0
  have r1 := row_of k1
  have f1 := frozen_of k1
  have z1 := blk_lt k1
  have r2 := row_of k2
  have f2 := frozen_of k2
  have z2 := blk_lt k2
  go_upto_region 3 with fail
  clear r0 f0 z0 r1 f1 z1 r2 f2 z2
  have tn0 : w.heap.size + 1 < w2.heap.size := by omega
  replace hB := hB.drew
  have s0 : w3.drew.heap[w.heap.size]? = some (.cells #[.int .i64 ck, .int .i64 cs, .int .i64 cf, .int .i64 ct, .int .i64 4, .slice R rn rc] 80 (0, 0)) := k0
  have s1 : w3.drew.heap[w.heap.size + 1]? = some (.cells #[.int .i64 0, .int .i64 0, .slice none 0 0] 85 (0, 0)) := k1
  have s2 : w3.drew.heap[w2.heap.size]? = some (.cells #[.int .i64 0, .int .i64 0, .slice none 0 0] 85 (0, 0)) := k2
  clear k0 k1 k2
  have hS0 : w3.drew.cell? ⟨w.heap.size, 4, none⟩ = some (.int .i64 4) := row_of s0 4
  go_region_held3 (fun W => W.cell? ⟨w.heap.size, 4, none⟩ = some (.int .i64 4))
      (first | assumption | exact hS0 | exact row_of s0 4 | exact row_of (blkUp s0 _) 4 | exact (row_of (blk_set s0 (by omega)) 4))
      (first
        | (go_at_call 48; (with_reducible refine (none_any _).mono ?_); rintro e wn ⟨rfl, hbS⟩; replace s0 := blk_keep hbS s0; replace s1 := blk_keep hbS s1; replace s2 := blk_keep hbS s2; replace hB := hB.trans (hbS.mono hB.size); have hS1 : wn.cell? ⟨w.heap.size, 4, none⟩ = some (.int .i64 4) := row_of s0 4)
        | (go_at_call 47; refine (repeat_4 _ _ (blkA _ _ rfl)).mono ?_; rintro e wm ⟨gg, rfl, hE, hbS⟩; replace s0 := blk_keep hbS (blkUp s0 _); replace s1 := blk_keep hbS (blkUp s1 _); have t2 := blk_lt s2; replace s2 := blk_keep hbS (blkUp s2 _); replace hB := (hB.alloc hB.size _).trans (hbS.mono (Nat.le_trans hB.size (by simp only [World.size_alloc]; omega))); have hS2 : wm.cell? ⟨w.heap.size, 4, none⟩ = some (.int .i64 4) := row_of s0 4; have r2 := row_of s2; have f2 := frozen_of s2; have z2 := blk_lt s2; have r1 := row_of s1; have f1 := frozen_of s1; have z1 := blk_lt s1; have tn : w.heap.size + 1 < w2.heap.size := tn0; have hE2 := Lib.hid (elem_base hE (show w2.heap.size + 1 ≤ _ by simp only [World.size_alloc]; omega)); clear hE))
  go_wp2_with fail
  generalize hWF : (World.setCell (World.setCell (World.setCell (World.setCell _ _ _) _ _) _ _) _ _) = WF
  obtain ⟨kF, kO, bF, _⟩ := put3 (blk_set s1 (by omega)) _ _ _ hWF.symm
  clear hWF r1 f1 r2 f2
  have rF := row_of kF
  have q := elem_ge hE2.out
  exact bodyPost_ret (v := .agg #[.int .i64 0, .int .i64 0, .slice (some ⟨gg, 0, none⟩) 4 4]) (by simp [results, Try.results22, go_sem, rF]) rfl ⟨gg, 4, rfl, elem_base (elem_same hE2.out (fun x hx => kO _ x (by omega) (blk_set hx (by omega)))) (by omega), (hB.setCell (p := ⟨w2.heap.size, 2, none⟩) (by show w.heap.size ≤ w2.heap.size; omega) _).trans (bF _ (by omega))⟩
end Go.Proofs.Ytdagadcflignfaa
namespace Go.Proofs.Ytdagadcflignfaa.Sx.Z
open Go.RowKit
/-- A value is this function. -/
def isFn (n : Nat) (v : Value) : Bool := match v with
  | .func (.func m) a b => Nat.beq m n && Nat.beq a.size 0 && Nat.beq b.size 0
  | _ => false
theorem isFn_eq {n : Nat} {v : Value} (h : isFn n v = true) : v = .func (.func n) #[] #[] := by
  unfold isFn at h
  split at h
  · rename_i m a b
    simp only [Bool.and_eq_true] at h
    obtain ⟨⟨h1, h2⟩, h3⟩ := h
    rw [Nat.eq_of_beq_eq_true h1, Array.eq_empty_of_size_eq_zero (Nat.eq_of_beq_eq_true h2), Array.eq_empty_of_size_eq_zero (Nat.eq_of_beq_eq_true h3)]
  · cases h
/-- Two rows, one by one. -/
def twoL (f : Int × Int → Int × Int → Int × Int) (a b : Int × Int) (A B : D) : Int × Int := if A.len = B.len then f a b else a
def twoD (f : Int × Int → Int × Int → Int × Int) (A B : D) : D := if A.len = B.len then prD A.len (fun j => f (pr A j) (pr B j)) else A
def mixD (A : D) (g : Nat → Int × Int) (k : Nat) : D := .l ((List.range A.len).map fun j => if j < k then cl (g j) else A.rows.getD j [])
theorem mix_len (A : D) (g : Nat → Int × Int) (k : Nat) : (mixD A g k).len = A.len := by show ((List.range A.len).map _).length = _; simp
theorem mix_0 (A : D) (g : Nat → Int × Int) : (mixD A g 0).rows = A.rows := by
  show (List.range A.rows.length).map _ = A.rows
  apply List.ext_getElem?
  intro q
  rw [List.getElem?_map]
  by_cases hq : q < A.rows.length
  · rw [List.getElem?_range hq, List.getElem?_eq_getElem hq]
    simp [List.getD_eq_getElem?_getD, List.getElem?_eq_getElem hq]
  · rw [List.getElem?_eq_none (by simpa using hq), List.getElem?_eq_none (by omega)]; rfl
theorem mix_set {A : D} {g : Nat → Int × Int} {k : Nat} (h : k < A.len) : (mixD A g k).rows.set k (cl (g k)) = (mixD A g (k + 1)).rows := by
  show ((List.range A.len).map fun j => if j < k then cl (g j) else A.rows.getD j []).set k (cl (g k)) = (List.range A.len).map fun j => if j < k + 1 then cl (g j) else A.rows.getD j []
  apply List.ext_getElem?
  intro q
  rw [List.getElem?_set, List.getElem?_map, List.getElem?_map]
  by_cases hq : q < A.len
  · rw [List.getElem?_range hq]
    by_cases h1 : k = q
    · subst h1; rw [if_pos rfl, if_pos (by simpa using h)]; simp
    · rw [if_neg h1]
      simp only [Option.map_some, Option.some.injEq]
      by_cases h2 : q < k
      · rw [if_pos h2, if_pos (by omega)]
      · rw [if_neg h2, if_neg (by omega)]
  · rw [List.getElem?_eq_none (by simpa using hq), if_neg (by omega)]; rfl
theorem mix_n (A : D) (g : Nat → Int × Int) : (mixD A g A.len).rows = (prD A.len g).rows := by
  show (List.range A.len).map _ = (List.range A.len).map _
  refine List.map_congr_left fun j hj => ?_
  rw [if_pos (List.mem_range.1 hj)]
noncomputable def qeachJS : FSpec := fun ds _ => match ds with
  | [.i l, .i h, .d d, .i l2, .i h2, .d d2, .v vf] => (match isFn 55 vf with | true => some { val := .one (.agg [.c (.int .i64 (.sym ((twoL jnI (l, h) (l2, h2) d d2).1))), .c (.int .i64 (.sym ((twoL jnI (l, h) (l2, h2) d d2).2))), .c (.rows 82 (twoD jnI d d2))]), vc := [d.len ≤ 8796093022208] } | false => none)
  | _ => none
noncomputable def qeachJC : Con := con [elA, elA, .sc .any] qeachJS
noncomputable def qjoinS : FSpec := fun ds _ => match ds with
  | [.i l, .i h, .d d, .i l2, .i h2, .d d2] => some { val := .one (.agg [.c (.int .i64 (.sym ((twoL jnI (l, h) (l2, h2) d d2).1))), .c (.int .i64 (.sym ((twoL jnI (l, h) (l2, h2) d d2).2))), .c (.rows 82 (twoD jnI d d2))]), vc := [d.len ≤ 8796093022208] }
  | _ => none
noncomputable def qjoinC : Con := con [elA, elA] qjoinS
noncomputable def qwidenS : FSpec := fun ds _ => match ds with
  | [.i l, .i h, .d d, .i l2, .i h2, .d d2] => some { val := .one (.agg [.c (.int .i64 (.sym ((twoL wdI (l, h) (l2, h2) d d2).1))), .c (.int .i64 (.sym ((twoL wdI (l, h) (l2, h2) d d2).2))), .c (.rows 82 (twoD wdI d d2))]), vc := [d.len ≤ 8796093022208] }
  | _ => none
noncomputable def qwidenC : Con := con [elA, elA] qwidenS
noncomputable def qnoneS : FSpec := fun ds _ => match ds with
  | [.i _kd, .i _size, .i _frm, .i _dst, .i tags, .d _rl] => some { val := .one (.agg [.c (.int .i64 (.lit 0)), .c (.int .i64 (.lit 0)), .c (.rows 82 (prD tags.toNat (fun _ => (1, 0))))]), vc := [1 ≤ tags ∧ tags ≤ 4] }
  | _ => none
noncomputable def qnoneC : Con := con [chA] qnoneS
theorem rows_slice {fz : Fz} {e : TypeId} {d : D} {v : Value} (h : TRel fz (.slice e) d v) : ∃ A n c, v = .slice A n c := by
  generalize hk : K.slice e = k at h
  cases h with
  | int k d => cases hk
  | bool d => cases hk
  | str d => cases hk
  | nil e d h0 => exact ⟨_, _, _, rfl⟩
  | empty e d a c h0 => exact ⟨_, _, _, rfl⟩
  | slice e d b o c u _ _ _ => exact ⟨_, _, _, rfl⟩
theorem none_out {ck cs cf ct tags : Int} (ht : 1 ≤ tags ∧ tags ≤ 4) (R : Option Addr) (rn rc : Nat) (w : World) : Calls Try.prog 22 #[.agg #[.int .i64 ck, .int .i64 cs, .int .i64 cf, .int .i64 ct, .int .i64 tags, .slice R rn rc]] w fun e w' => ∃ g cap cur, e = .returned (.agg #[.int .i64 0, .int .i64 0, .slice (some ⟨g, 0, none⟩) tags.toNat cap]) ∧ w.heap.size ≤ g ∧ w'.heap[g]? = some (.cells cur 82 (0, 0)) ∧ tags.toNat ≤ cap ∧ (∀ i, i < tags.toNat → cur[i * 2]? = some (.int .i64 1) ∧ cur[i * 2 + 1]? = some (.int .i64 0)) ∧ Below w.heap.size w w' := by
  have key : ∀ {n : Nat} {e : Ending} {w' : World}, n ≤ 4 → 1 ≤ n → ElemOut w 0 0 (List.replicate n (1, 0)) e w' → ∃ g cap cur, e = .returned (.agg #[.int .i64 0, .int .i64 0, .slice (some ⟨g, 0, none⟩) n cap]) ∧ w.heap.size ≤ g ∧ w'.heap[g]? = some (.cells cur 82 (0, 0)) ∧ n ≤ cap ∧ (∀ i, i < n → cur[i * 2]? = some (.int .i64 1) ∧ cur[i * 2 + 1]? = some (.int .i64 0)) ∧ Below w.heap.size w w' := fun {n e w'} hn4 hn1 h => by
    obtain ⟨g, cap, rfl, hel, hb⟩ := h
    rw [List.length_replicate] at *
    unfold ElemAt at hel
    rw [List.length_replicate] at hel
    obtain ⟨_, h2⟩ := hel
    rcases h2 with ⟨h2, _⟩ | ⟨g', cap', cur, h2, h3, h4, h5, _, h7, h8⟩
    · cases h2
    · obtain ⟨e1, _, e2⟩ := Value.slice.inj h2
      have e1 := Option.some.inj e1
      obtain rfl : g = g' := congrArg Addr.block e1
      subst e2
      refine ⟨g, cap, cur, rfl, h3, h4, h5, fun i hi => ?_, hb⟩
      have at_ : ∀ j u, (Go.Proofs.Ytdagadcflignfaa.cellsOf (List.replicate n ((1 : Int), (0 : Int))))[j]? = some u → cur[j]? = some u := fun j u hj => by
        rw [← h8] at hj
        rw [List.getElem?_take] at hj
        split at hj
        · simpa using hj
        · cases hj
      have : n = 1 ∨ n = 2 ∨ n = 3 ∨ n = 4 := by omega
      rcases this with rfl | rfl | rfl | rfl
      · have : i = 0 := by omega
        subst this; exact ⟨at_ _ _ rfl, at_ _ _ rfl⟩
      · have : i = 0 ∨ i = 1 := by omega
        rcases this with rfl | rfl <;> exact ⟨at_ _ _ rfl, at_ _ _ rfl⟩
      · have : i = 0 ∨ i = 1 ∨ i = 2 := by omega
        rcases this with rfl | rfl | rfl <;> exact ⟨at_ _ _ rfl, at_ _ _ rfl⟩
      · have : i = 0 ∨ i = 1 ∨ i = 2 ∨ i = 3 := by omega
        rcases this with rfl | rfl | rfl | rfl <;> exact ⟨at_ _ _ rfl, at_ _ _ rfl⟩
  have ht' : tags = 1 ∨ tags = 2 ∨ tags = 3 ∨ tags = 4 := by omega
  rcases ht' with rfl | rfl | rfl | rfl
  · exact (none_1 ck cs cf ct R rn rc w).mono fun e w' h => key (n := 1) (by omega) (by omega) h
  · exact (none_2 ck cs cf ct R rn rc w).mono fun e w' h => key (n := 2) (by omega) (by omega) h
  · exact (none_3 ck cs cf ct R rn rc w).mono fun e w' h => key (n := 3) (by omega) (by omega) h
  · exact (none_4 ck cs cf ct R rn rc w).mono fun e w' h => key (n := 4) (by omega) (by omega) h
theorem qnone_ok : ConOK Try.prog 22 qnoneC := by
  refine ⟨fun _ _ => by kernel_rfl, fun hp fr args e he hv w0 w ρ vs hw _ ha => ?_⟩
  unfold qnoneC con at he
  split at he
  · rename_i ds ps hds
    split at he
    · rename_i e1 he1
      unfold qnoneS at he1
      split at he1
      · rename_i kd size frm dst tags rl
        obtain rfl := Option.some.inj he1
        obtain rfl := Option.some.inj he
        obtain ⟨hp1, hp2⟩ := all_append.1 hv
        obtain ⟨svs, h, ρ1, id, hun, _, _, hrel⟩ := unP_spec hw [chA] args _ ps hds hp1 vs ha (ids := keepOwn hp (idsL args)) (fun i hi ho => keepOwn_mem.2 ⟨hi, ho⟩) 0
        obtain rfl : svs = _ := (congrArg Prod.fst (Option.some.inj hun)).symm
        have ht : 1 ≤ tags ∧ tags ≤ 4 := hp2.1
        match vs, hrel with
        | [x], ⟨⟨⟨l⟩, hx, hlen, hcs⟩, _⟩ =>
          subst hx
          match l, hlen with
          | [a0, a1, a2, a3, a4, a5], _ =>
            have e0 : a0 = .int .i64 kd := hcs 0 _ a0 rfl rfl
            have e1 : a1 = .int .i64 size := hcs 1 _ a1 rfl rfl
            have e2 : a2 = .int .i64 frm := hcs 2 _ a2 rfl rfl
            have e3 : a3 = .int .i64 dst := hcs 3 _ a3 rfl rfl
            have e4 : a4 = .int .i64 tags := hcs 4 _ a4 rfl rfl
            obtain ⟨R, rn, rc, e5⟩ := rows_slice (show TRel _ (.slice _) rl a5 from hcs 5 _ a5 rfl rfl)
            rw [e0, e1, e2, e3, e4, e5]
            refine (none_out ht R rn rc w).mono ?_
            rintro en w' ⟨g, cap, cur, rfl, hg, hcur, hcap, hcell, hb⟩
            have hgn : ρ.fz g = none := hw.froz.new hg
            refine ⟨{ ρ with fz := fun b => if b = g then some cur else ρ.fz b }, _, rfl, ?_, ⟨⟨fun _ _ h => h, fun _ _ => rfl, fun b cs hb => ?_, rfl, rfl⟩, fun _ _ => rfl, hb.mono (Nat.zero_le _), fun b hlt _ => hb.block b hlt, fun i x hx => ?_, fun i x hx => ?_, fun i j x y hx => ?_, fun b cs hcs => ?_⟩⟩
            · refine ⟨_, rfl, rfl, fun i x v hx hv => ?_⟩
              match i with
              | 0 => obtain rfl := Option.some.inj hx; obtain rfl := Option.some.inj hv; rfl
              | 1 => obtain rfl := Option.some.inj hx; obtain rfl := Option.some.inj hv; rfl
              | 2 =>
                obtain rfl := Option.some.inj hx
                obtain rfl := Option.some.inj hv
                have hl := prD_len tags.toNat (fun _ => (1, 0))
                have hk : eks 82 = [.int .i64, .int .i64] := rfl
                rw [show Value.slice (some ⟨g, 0, none⟩) tags.toNat cap = Value.slice (some ⟨g, 0, none⟩) (prD tags.toNat (fun _ => (1, 0))).len cap by rw [hl]]
                refine .slice _ _ _ _ _ (fun i j => if j = 0 then .int .i64 1 else .int .i64 0) (by omega) (fun i j hi hj => ?_) (fun i j k hi hkk => ?_)
                · have hc := hcell i (by omega)
                  have hj : j = 0 ∨ j = 1 := by have : (eks 82).length = 2 := rfl; omega
                  show Fz.cell (fun b => if b = g then some cur else ρ.fz b) g (0 + i * 2 + j) = _
                  have ef : (fun b => if b = g then some cur else ρ.fz b) g = some cur := if_pos rfl
                  unfold Fz.cell
                  rw [ef]
                  rcases hj with rfl | rfl
                  · rw [Nat.zero_add, Nat.add_zero]; exact hc.1
                  · rw [Nat.zero_add]; exact hc.2
                · have pe := prD_el (n := tags.toNat) (j := i) (by omega) (fun _ => ((1 : Int), (0 : Int)))
                  have p0 : ((prD tags.toNat (fun _ => (1, 0))).el i 0).toI = 1 := congrArg Prod.fst pe
                  have p1 : ((prD tags.toNat (fun _ => (1, 0))).el i 1).toI = 0 := congrArg Prod.snd pe
                  match j with
                  | 0 =>
                    obtain rfl : .int .i64 = k := Option.some.inj hkk
                    have := TRel.int (fz := fun b => if b = g then some cur else ρ.fz b) .i64 ((prD tags.toNat (fun _ => (1, 0))).el i 0)
                    rw [p0] at this
                    exact this
                  | 1 =>
                    obtain rfl : .int .i64 = k := Option.some.inj hkk
                    have := TRel.int (fz := fun b => if b = g then some cur else ρ.fz b) .i64 ((prD tags.toNat (fun _ => (1, 0))).el i 1)
                    rw [p1] at this
                    exact this
                  | j + 2 => cases hkk
              | i + 3 => cases hx
            · show (if b = g then some cur else ρ.fz b) = some cs
              split
              · rename_i hbg; rw [hbg, hgn] at hb; cases hb
              · exact hb
            · rw [(kills_look (show look (kills (keepOwn hp (idsL args))) i = some x from hx)).1]; trivial
            · cases hx
            · cases hx
            · have hcs : (if b = g then some cur else ρ.fz b) = some cs := hcs
              split at hcs
              · rename_i hbg
                obtain rfl := Option.some.inj hcs
                rw [hbg]
                exact .inr ⟨.inl hg, ⟨_, _, hcur⟩, fun i x hx => by cases hx⟩
              · exact .inl hcs
      · cases he1
    · cases he
  · cases he
end Go.Proofs.Ytdagadcflignfaa.Sx.Z
namespace Go.Proofs.Ytdagadcflignfaa.Sx.Z
open Go.RowKit
theorem prD_app (n : Nat) (g : Nat → Int × Int) : (prD n g).rows ++ ([cl (g n)].take (0 + 1)).drop 0 = (prD (n + 1) g).rows := by
  show (List.range n).map _ ++ [cl (g n)] = (List.range (n + 1)).map _
  rw [List.range_succ, List.map_append]; rfl
theorem full_len {n : Nat} {r : List (List D)} (hr : r.length = n) : (r.take (0 + n)).drop 0 = r := by rw [Nat.zero_add, List.drop_zero, ← hr, List.take_length]
def rsndB (d : D) (tag : Int) (i : Int × Int) : Bool := !(decide (i.1 > i.2)) && !(decide (tag < 0)) && !(decide (tag ≥ d.len))
def rsndL (size : Int) (l : Int × Int) (d : D) (tag : Int) (i : Int × Int) : Int × Int := if rsndB d tag i = true then (0, min (IntKind.i64.wrap (l.2 + 1)) size) else l
def rsndD (d : D) (tag : Int) (i : Int × Int) : D := if rsndB d tag i = true then setR d tag.toNat (rjnI (pr d tag.toNat) i) else d
def sameE (a : Int × Int) (A : D) (b : Int × Int) (B : D) : Bool := decide (a = b) && decide (A.len = B.len) && allQ (fun j => decide (pr A j = pr B j)) A.len
def rf (w : Bool) (a b : Int × Int) : Int × Int := if w = true then rwdI a b else rjnI a b
theorem sameE_refl (a : Int × Int) (A : D) : sameE a A a A = true := by
  unfold sameE
  rw [allQ_iff.2 fun j _ => by simp]
  simp
noncomputable def ltoS : FSpec := fun ds _ => match ds with
  | [.i l, .i h, .d d] => some { val := .one (.agg [.c (.int .i64 (.sym (l))), .c (.int .i64 (.sym (h))), .c (.rows 82 (prD d.len (pr d)))]), vc := [d.len ≤ 8796093022208] }
  | _ => none
end Go.Proofs.Ytdagadcflignfaa.Sx.Z
namespace Go.Proofs.Ytdagadcflignfaa.Sx.Z
open Go.RowKit
theorem eq2 (a b c d : Int) : (a == c && (b == d && true)) = decide ((a, b) = (c, d)) := by
  by_cases h1 : a = c <;> by_cases h2 : b = d <;> simp [h1, h2]
theorem same_no {a b : Int × Int} {A B : D} (c : (!decide (a = b) || ((A.len : Int) != (B.len : Int))) = true) : false = sameE a A b B := by
  unfold sameE
  by_cases h1 : a = b
  · have h2 : ¬ A.len = B.len := by intro e; rw [e] at c; simp [h1] at c
    rw [decide_eq_false h2, Bool.and_false, Bool.false_and]
  · rw [decide_eq_false h1, Bool.false_and, Bool.false_and]
theorem same_ok {a b : Int × Int} {A B : D} (c : (!decide (a = b) || ((A.len : Int) != (B.len : Int))) = false) : a = b ∧ A.len = B.len := by
  simp only [Bool.or_eq_false_iff, Bool.not_eq_false', decide_eq_true_eq, bne_eq_false_iff_eq] at c
  exact ⟨c.1, by omega⟩
theorem notJ (t n : Int) (b : Bool) : (decide (t < 0) || decide (t ≥ n) || !b) = !((decide (0 ≤ t) && decide (t < n)) && b) := by
  rw [show decide (t < 0) = !decide (0 ≤ t) by by_cases h : 0 ≤ t <;> simp [h] <;> omega, show decide (t ≥ n) = !decide (t < n) by by_cases h : t < n <;> simp [h] <;> omega]
  cases decide (0 ≤ t) <;> cases decide (t < n) <;> cases b <;> rfl
theorem notJ2 {t n : Int} (h : (decide (t < 0) || decide (t ≥ n)) = false ∧ True) : 0 ≤ t ∧ t < n := by
  have h := h.1
  simp only [Bool.or_eq_false_iff, decide_eq_false_iff_not] at h
  omega
noncomputable def rsameS : FSpec := fun ds _ => match ds with
  | [.i l, .i h, .d d, .i l2, .i h2, .d d2] => some { val := .one (.sc (.bool (.sym (sameE (l, h) d (l2, h2) d2)))), vc := [d.len ≤ 8796093022208] }
  | _ => none
noncomputable def rhasS : FSpec := fun ds _ => match ds with
  | [.i l, .i h, .d d, .d q] => some { val := .one (.sc (.bool (.sym (hasQ l h d q)))), vc := [q.len ≤ 8796093022208, d.len ≤ 8796093022208] }
  | _ => none
end Go.Proofs.Ytdagadcflignfaa.Sx.Z
namespace Go.Proofs.Ytdagadcflignfaa.Sx.Z
open Go.RowKit
def putI (r : D) (j : Nat) : Int × Int := nrm (bendI (r.el j 1).toI, bendI (r.el j 2).toI)
def bS (tags size : Int) (r : D) : Nat → (Int × Int) × D
  | 0 => ((0, 0), prD tags.toNat fun _ => (1, 0))
  | k + 1 => (sndL size tags (bS tags size r k).1 (bS tags size r k).2 (r.el k 0).toI (putI r k), sndD tags (bS tags size r k).2 (r.el k 0).toI (putI r k))
def bL (tags size : Int) (r : D) (k : Nat) : Int × Int := (bS tags size r k).1
def bD (tags size : Int) (r : D) (k : Nat) : D := (bS tags size r k).2
theorem putI_nm (r : D) (j : Nat) : Nm (putI r j) := by
  unfold putI nrm
  have h1 := bendI_in (r.el j 1).toI
  have h2 := bendI_in (r.el j 2).toI
  split
  · exact .inl rfl
  · rename_i h
    exact .inr ⟨h1.1, by simpa using h, h2.2⟩
theorem pr_setR {d : D} {k j : Nat} {p : Int × Int} (hk : k < d.len) : pr (setR d k p) j = if j = k then p else pr d j := by
  have e : (setR d k p).rows.getD j [] = if j = k then cl p else d.rows.getD j [] := by
    show (d.rows.set k (cl p)).getD j [] = _
    rw [List.getD_eq_getElem?_getD, List.getD_eq_getElem?_getD, List.getElem?_set]
    by_cases h : k = j
    · subst h; rw [if_pos rfl, if_pos rfl, if_pos (show k < d.rows.length from hk)]; rfl
    · rw [if_neg h, if_neg (fun e => h e.symm)]
  unfold pr D.el
  rw [e]
  split <;> rfl
theorem b_good {tags size : Int} (_ht : 1 ≤ tags ∧ tags ≤ 4) (hs : 1 ≤ size ∧ size ≤ 100) (r : D) (k : Nat) : (bD tags size r k).len = tags.toNat ∧ (∀ j, j < tags.toNat → Nm (pr (bD tags size r k) j)) ∧ (bL tags size r k).1 = 0 ∧ 0 ≤ (bL tags size r k).2 ∧ (bL tags size r k).2 ≤ size := by
  induction k with
  | zero => exact ⟨prD_len _ _, fun j hj => .inl (prD_el hj _), rfl, Int.le_refl 0, show (0 : Int) ≤ size by omega⟩
  | succ k ih =>
    obtain ⟨i1, i2, i3, i4, i5⟩ := ih
    show (sndD tags (bD tags size r k) (r.el k 0).toI (putI r k)).len = _ ∧ (∀ j, _ → Nm (pr (sndD tags (bD tags size r k) (r.el k 0).toI (putI r k)) j)) ∧ (sndL size tags (bL tags size r k) (bD tags size r k) (r.el k 0).toI (putI r k)).1 = 0 ∧ 0 ≤ (sndL size tags (bL tags size r k) (bD tags size r k) (r.el k 0).toI (putI r k)).2 ∧ (sndL size tags (bL tags size r k) (bD tags size r k) (r.el k 0).toI (putI r k)).2 ≤ size
    unfold sndD sndL
    by_cases h : sndB tags (bD tags size r k) (r.el k 0).toI (putI r k) = true
    · rw [if_pos h, if_pos h]
      have hk : (r.el k 0).toI.toNat < (bD tags size r k).len := by
        unfold sndB at h
        simp only [Bool.and_eq_true, decide_eq_true_eq] at h
        omega
      refine ⟨(setR_len _ _ _).trans i1, fun j hj => ?_, ?_⟩
      · rw [pr_setR hk]
        split
        · exact nm_jn
        · exact i2 j hj
      · have e : (if (bL tags size r k).2 < size then IntKind.i64.wrap ((bL tags size r k).2 + 1) else size) = if (bL tags size r k).2 < size then (bL tags size r k).2 + 1 else size := by rw [wr _ (by omega)]
        rw [e]
        have hv : ∃ v, (if (bL tags size r k).2 < size then (bL tags size r k).2 + 1 else size) = v ∧ 0 ≤ v ∧ v ≤ size := ⟨_, rfl, by split <;> omega, by split <;> omega⟩
        obtain ⟨v, e1, v1, v2⟩ := hv
        rw [e1]
        rcases ofI_cases 0 v with ⟨c, _⟩ | ⟨_, e2⟩
        · exfalso; omega
        · rw [e2]; dsimp only; omega
    · rw [if_neg h, if_neg h]
      exact ⟨i1, i2, i3, i4, i5⟩
theorem b_like {tags size : Int} (ht : 1 ≤ tags ∧ tags ≤ 4) (hs : 1 ≤ size ∧ size ≤ 100) (r : D) (k : Nat) : rsndL size (bL tags size r k) (bD tags size r k) (r.el k 0).toI (putI r k) = bL tags size r (k + 1) ∧ rsndD (bD tags size r k) (r.el k 0).toI (putI r k) = bD tags size r (k + 1) := by
  obtain ⟨i1, i2, i3, i4, i5⟩ := b_good ht hs r k
  show _ = sndL size tags (bL tags size r k) (bD tags size r k) (r.el k 0).toI (putI r k) ∧ _ = sndD tags (bD tags size r k) (r.el k 0).toI (putI r k)
  have eb : rsndB (bD tags size r k) (r.el k 0).toI (putI r k) = sndB tags (bD tags size r k) (r.el k 0).toI (putI r k) := by
    unfold rsndB sndB
    rw [Bool.eq_iff_iff]
    simp only [Bool.and_eq_true, Bool.not_eq_true', decide_eq_false_iff_not, decide_eq_true_eq]
    omega
  unfold rsndL rsndD sndL sndD
  rw [eb]
  by_cases h : sndB tags (bD tags size r k) (r.el k 0).toI (putI r k) = true
  · rw [if_pos h, if_pos h, if_pos h, if_pos h]
    have hk : (r.el k 0).toI.toNat < tags.toNat := by
      unfold sndB at h
      simp only [Bool.and_eq_true, decide_eq_true_eq] at h
      omega
    rw [jn_eq (i2 _ hk) (putI_nm r k)]
    refine ⟨?_, rfl⟩
    have e : (if (bL tags size r k).2 < size then IntKind.i64.wrap ((bL tags size r k).2 + 1) else size) = min (IntKind.i64.wrap ((bL tags size r k).2 + 1)) size := by rw [wr _ (by omega)]; split <;> omega
    rw [e]
    rcases ofI_cases 0 (min (IntKind.i64.wrap ((bL tags size r k).2 + 1)) size) with ⟨c, _⟩ | ⟨_, e2⟩
    · exfalso; rw [wr _ (by omega)] at c; omega
    · rw [e2]
      rw [wr _ (by omega)]
      ext <;> dsimp only <;> omega
  · rw [if_neg h, if_neg h, if_neg h, if_neg h]
    exact ⟨rfl, rfl⟩
theorem same_pr (a : Int × Int) (d : D) : sameE a (prD d.len (pr d)) a d = true := by
  unfold sameE
  rw [decide_eq_true (rfl : a = a), decide_eq_true (prD_len d.len (pr d)), prD_len, allQ_iff.2 fun j hj => decide_eq_true (prD_el hj _)]; rfl
end Go.Proofs.Ytdagadcflignfaa.Sx.Z
