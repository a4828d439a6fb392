/-
  slices.Repeat of the empty Itv, one to four times.
-/
import Derived.Test.YtbcbcambkjhhhaaQc
namespace Go.Proofs.Ytbcbcambkjhhhaa
open Go.RowKit
/-- A row of so many empty Itvs, made anew. -/
def Nones (w : World) (n : Nat) (e : Ending) (w' : World) : Prop := ∃ g, e = .returned (.slice (some ⟨g, 0, none⟩) n n) ∧ ElemAt w' w.heap.size 48 g n (List.replicate n (1, 0)) ∧ Below w.heap.size w w' 
theorem mul_1 (w : World) : Calls Try.prog 108 #[.int .u64 1, .int .u64 1] w fun e w' => e = .returned (.tuple #[.int .u64 0, .int .u64 1]) ∧ w = w' := by
  go_enter Try.func108, Try.ntmps108
  go_wp2
  go_ret2
  exact ⟨by kernel_rfl, rfl⟩
set_option maxRecDepth 100000 in
set_option maxHeartbeats 2000000 in
theorem repeat_1 (b : Nat) (w : World) (hb : w.heap[b]? = some (.cells #[.int .i64 1, .int .i64 0] 48 (0, 0))) :
    Calls Try.prog 77 #[.slice (some ⟨b, 0, none⟩) 1 1, .int .i64 1] w (Nones w 1) := by
  have hmk : ∀ w, (Instr.makeSlice 49 (.int .i64 1) (.int .i64 1)).run Try.prog w = .ok (.slice (some ⟨w.heap.size, 0, none⟩) 1 1) (w.alloc (.cells #[.int .i64 0, .int .i64 0] 48)) := fun _ => by kernel_rfl
  go_enter Try.func77, Try.ntmps77
  go_wp2_with fail
  refine (mul_1 _).mono ?_
  rintro e w' ⟨rfl, rfl⟩
  go_upto_region 7 with fail
  refine wp_world (fun W => W.heap[b]? = some (.cells #[.int .i64 1, .int .i64 0] 48 (0, 0)) ∧ W.heap[w.heap.size]? = some (.cells #[.int .i64 0, .int .i64 0] 48 (0, 0)) ∧ Below w.heap.size w W) ⟨blkUp hb _, blkA _ _ rfl, (Below.refl _ _).alloc (Nat.le_refl _) _⟩ ?_
  clear hmk
  rintro w1 ⟨kb, k0, hB⟩
  have sb : ∀ (j : Nat) (v : Value), ([.int .i64 1, .int .i64 0] : List Value)[j]? = some v → w1.cell? ((⟨b, 0, none⟩ : Addr).add j) = some v := fun j v h => by
    match j, h with
    | 0, h => exact (row_of kb 0).trans h
    | 1, h => exact (row_of kb 1).trans h
    | j + 2, h => simp at h
  replace sb := Lib.hid sb
  go_wp2_with (refine wpList_copy_sz rfl _ _ _ _ rfl 48 Try.underlying49 2 size_itv w.heap.size 0 1 1 ⟨b, 0, none⟩ 1 1 1 (by rfl) (by rfl) _ _ k0 [.int .i64 1, .int .i64 0] (by rfl) (by rfl) sb.out (by simp) (by simp [Value.oneCell']) #[.int .i64 1, .int .i64 0] (by rfl) (blk_lt k0) ?_; intro w2 k2 hb2)
  replace hB := hB.trans hb2
  clear hb2 k0 kb sb
  refine wp_loop_rounds 1 ?_
  rw [rounds_succ]
  go_wp2_with fail
  go_ret
  exact ⟨w.heap.size, rfl, ⟨by rfl, .inr ⟨w.heap.size, 1, _, rfl, Nat.le_refl _, k2, Nat.le_refl _, by unfold maxLen; decide, by rfl, by rfl⟩⟩, hB⟩
theorem mul_2 (w : World) : Calls Try.prog 108 #[.int .u64 1, .int .u64 2] w fun e w' => e = .returned (.tuple #[.int .u64 0, .int .u64 2]) ∧ w = w' := by
  go_enter Try.func108, Try.ntmps108
  go_wp2
  go_ret2
  exact ⟨by kernel_rfl, rfl⟩
set_option maxRecDepth 100000 in
set_option maxHeartbeats 2000000 in
theorem repeat_2 (b : Nat) (w : World) (hb : w.heap[b]? = some (.cells #[.int .i64 1, .int .i64 0] 48 (0, 0))) :
    Calls Try.prog 77 #[.slice (some ⟨b, 0, none⟩) 1 1, .int .i64 2] w (Nones w 2) := by
  have hmk : ∀ w, (Instr.makeSlice 49 (.int .i64 2) (.int .i64 2)).run Try.prog w = .ok (.slice (some ⟨w.heap.size, 0, none⟩) 2 2) (w.alloc (.cells #[.int .i64 0, .int .i64 0, .int .i64 0, .int .i64 0] 48)) := fun _ => by kernel_rfl
  go_enter Try.func77, Try.ntmps77
  go_wp2_with fail
  refine (mul_2 _).mono ?_
  rintro e w' ⟨rfl, rfl⟩
  go_upto_region 7 with fail
  refine wp_world (fun W => W.heap[b]? = some (.cells #[.int .i64 1, .int .i64 0] 48 (0, 0)) ∧ W.heap[w.heap.size]? = some (.cells #[.int .i64 0, .int .i64 0, .int .i64 0, .int .i64 0] 48 (0, 0)) ∧ Below w.heap.size w W) ⟨blkUp hb _, blkA _ _ rfl, (Below.refl _ _).alloc (Nat.le_refl _) _⟩ ?_
  clear hmk
  rintro w1 ⟨kb, k0, hB⟩
  have sb : ∀ (j : Nat) (v : Value), ([.int .i64 1, .int .i64 0] : List Value)[j]? = some v → w1.cell? ((⟨b, 0, none⟩ : Addr).add j) = some v := fun j v h => by
    match j, h with
    | 0, h => exact (row_of kb 0).trans h
    | 1, h => exact (row_of kb 1).trans h
    | j + 2, h => simp at h
  replace sb := Lib.hid sb
  go_wp2_with (refine wpList_copy_sz rfl _ _ _ _ rfl 48 Try.underlying49 2 size_itv w.heap.size 0 2 2 ⟨b, 0, none⟩ 1 1 1 (by rfl) (by rfl) _ _ k0 [.int .i64 1, .int .i64 0] (by rfl) (by rfl) sb.out (by simp) (by simp [Value.oneCell']) #[.int .i64 1, .int .i64 0, .int .i64 0, .int .i64 0] (by rfl) (blk_lt k0) ?_; intro w2 k2 hb2)
  replace hB := hB.trans hb2
  clear hb2 k0 kb sb
  refine wp_loop_rounds 2 ?_
  rw [rounds_succ]
  go_upto_region 9 with fail
  have kd2 : w2.drew.heap[w.heap.size]? = some (.cells #[.int .i64 1, .int .i64 0, .int .i64 0, .int .i64 0] 48 (0, 0)) := k2
  have sc : ∀ (j : Nat) (v : Value), ([.int .i64 1, .int .i64 0] : List Value)[j]? = some v → w2.drew.cell? ((⟨w.heap.size, 0, none⟩ : Addr).add j) = some v := fun j v h => by
    match j, h with
    | 0, h => exact (row_of kd2 0).trans h
    | 1, h => exact (row_of kd2 1).trans h
    | j + 2, h => simp at h
  replace sc := Lib.hid sc
  go_region_law (first
    | (refine step_copy_sz (by rfl) _ _ _ _ (by rfl) 48 Try.underlying49 2 size_itv w.heap.size 2 1 1 ⟨w.heap.size, 0, none⟩ 1 2 1 (by go_simp) (by go_simp) _ _ kd2 [.int .i64 1, .int .i64 0] (by rfl) (by rfl) sc.out (by simp) (by simp [Value.oneCell']) #[.int .i64 1, .int .i64 0, .int .i64 1, .int .i64 0] (by rfl) (blk_lt kd2) ?_; intro w3 k3 hb3))
  replace hB := (hB.drew).trans hb3
  clear hb3 k2 sc kd2
  go_wp2_with fail
  rw [rounds_succ]
  go_wp2_with fail
  go_ret
  exact ⟨w.heap.size, rfl, ⟨by rfl, .inr ⟨w.heap.size, 2, _, rfl, Nat.le_refl _, k3, Nat.le_refl _, by unfold maxLen; decide, by rfl, by rfl⟩⟩, hB⟩
theorem mul_3 (w : World) : Calls Try.prog 108 #[.int .u64 1, .int .u64 3] w fun e w' => e = .returned (.tuple #[.int .u64 0, .int .u64 3]) ∧ w = w' := by
  go_enter Try.func108, Try.ntmps108
  go_wp2
  go_ret2
  exact ⟨by kernel_rfl, rfl⟩
set_option maxRecDepth 100000 in
set_option maxHeartbeats 2000000 in
theorem repeat_3 (b : Nat) (w : World) (hb : w.heap[b]? = some (.cells #[.int .i64 1, .int .i64 0] 48 (0, 0))) :
    Calls Try.prog 77 #[.slice (some ⟨b, 0, none⟩) 1 1, .int .i64 3] w (Nones w 3) := by
  have hmk : ∀ w, (Instr.makeSlice 49 (.int .i64 3) (.int .i64 3)).run Try.prog w = .ok (.slice (some ⟨w.heap.size, 0, none⟩) 3 3) (w.alloc (.cells #[.int .i64 0, .int .i64 0, .int .i64 0, .int .i64 0, .int .i64 0, .int .i64 0] 48)) := fun _ => by kernel_rfl
  go_enter Try.func77, Try.ntmps77
  go_wp2_with fail
  refine (mul_3 _).mono ?_
  rintro e w' ⟨rfl, rfl⟩
  go_upto_region 7 with fail
  refine wp_world (fun W => W.heap[b]? = some (.cells #[.int .i64 1, .int .i64 0] 48 (0, 0)) ∧ W.heap[w.heap.size]? = some (.cells #[.int .i64 0, .int .i64 0, .int .i64 0, .int .i64 0, .int .i64 0, .int .i64 0] 48 (0, 0)) ∧ Below w.heap.size w W) ⟨blkUp hb _, blkA _ _ rfl, (Below.refl _ _).alloc (Nat.le_refl _) _⟩ ?_
  clear hmk
  rintro w1 ⟨kb, k0, hB⟩
  have sb : ∀ (j : Nat) (v : Value), ([.int .i64 1, .int .i64 0] : List Value)[j]? = some v → w1.cell? ((⟨b, 0, none⟩ : Addr).add j) = some v := fun j v h => by
    match j, h with
    | 0, h => exact (row_of kb 0).trans h
    | 1, h => exact (row_of kb 1).trans h
    | j + 2, h => simp at h
  replace sb := Lib.hid sb
  go_wp2_with (refine wpList_copy_sz rfl _ _ _ _ rfl 48 Try.underlying49 2 size_itv w.heap.size 0 3 3 ⟨b, 0, none⟩ 1 1 1 (by rfl) (by rfl) _ _ k0 [.int .i64 1, .int .i64 0] (by rfl) (by rfl) sb.out (by simp) (by simp [Value.oneCell']) #[.int .i64 1, .int .i64 0, .int .i64 0, .int .i64 0, .int .i64 0, .int .i64 0] (by rfl) (blk_lt k0) ?_; intro w2 k2 hb2)
  replace hB := hB.trans hb2
  clear hb2 k0 kb sb
  refine wp_loop_rounds 3 ?_
  rw [rounds_succ]
  go_upto_region 9 with fail
  have kd2 : w2.drew.heap[w.heap.size]? = some (.cells #[.int .i64 1, .int .i64 0, .int .i64 0, .int .i64 0, .int .i64 0, .int .i64 0] 48 (0, 0)) := k2
  have sc : ∀ (j : Nat) (v : Value), ([.int .i64 1, .int .i64 0] : List Value)[j]? = some v → w2.drew.cell? ((⟨w.heap.size, 0, none⟩ : Addr).add j) = some v := fun j v h => by
    match j, h with
    | 0, h => exact (row_of kd2 0).trans h
    | 1, h => exact (row_of kd2 1).trans h
    | j + 2, h => simp at h
  replace sc := Lib.hid sc
  go_region_law (first
    | (refine step_copy_sz (by rfl) _ _ _ _ (by rfl) 48 Try.underlying49 2 size_itv w.heap.size 2 2 2 ⟨w.heap.size, 0, none⟩ 1 3 1 (by go_simp) (by go_simp) _ _ kd2 [.int .i64 1, .int .i64 0] (by rfl) (by rfl) sc.out (by simp) (by simp [Value.oneCell']) #[.int .i64 1, .int .i64 0, .int .i64 1, .int .i64 0, .int .i64 0, .int .i64 0] (by rfl) (blk_lt kd2) ?_; intro w3 k3 hb3))
  replace hB := (hB.drew).trans hb3
  clear hb3 k2 sc kd2
  go_wp2_with fail
  rw [rounds_succ]
  go_upto_region 9 with fail
  have kd3 : w3.drew.heap[w.heap.size]? = some (.cells #[.int .i64 1, .int .i64 0, .int .i64 1, .int .i64 0, .int .i64 0, .int .i64 0] 48 (0, 0)) := k3
  have sc : ∀ (j : Nat) (v : Value), ([.int .i64 1, .int .i64 0] : List Value)[j]? = some v → w3.drew.cell? ((⟨w.heap.size, 0, none⟩ : Addr).add j) = some v := fun j v h => by
    match j, h with
    | 0, h => exact (row_of kd3 0).trans h
    | 1, h => exact (row_of kd3 1).trans h
    | j + 2, h => simp at h
  replace sc := Lib.hid sc
  go_region_law (first
    | (refine step_copy_sz (by rfl) _ _ _ _ (by rfl) 48 Try.underlying49 2 size_itv w.heap.size 4 1 1 ⟨w.heap.size, 0, none⟩ 2 3 1 (by go_simp) (by go_simp) _ _ kd3 [.int .i64 1, .int .i64 0] (by rfl) (by rfl) sc.out (by simp) (by simp [Value.oneCell']) #[.int .i64 1, .int .i64 0, .int .i64 1, .int .i64 0, .int .i64 1, .int .i64 0] (by rfl) (blk_lt kd3) ?_; intro w4 k4 hb4))
  replace hB := (hB.drew).trans hb4
  clear hb4 k3 sc kd3
  go_wp2_with fail
  rw [rounds_succ]
  go_wp2_with fail
  go_ret
  exact ⟨w.heap.size, rfl, ⟨by rfl, .inr ⟨w.heap.size, 3, _, rfl, Nat.le_refl _, k4, Nat.le_refl _, by unfold maxLen; decide, by rfl, by rfl⟩⟩, hB⟩
theorem mul_4 (w : World) : Calls Try.prog 108 #[.int .u64 1, .int .u64 4] w fun e w' => e = .returned (.tuple #[.int .u64 0, .int .u64 4]) ∧ w = w' := by
  go_enter Try.func108, Try.ntmps108
  go_wp2
  go_ret2
  exact ⟨by kernel_rfl, rfl⟩
set_option maxRecDepth 100000 in
set_option maxHeartbeats 2000000 in
theorem repeat_4 (b : Nat) (w : World) (hb : w.heap[b]? = some (.cells #[.int .i64 1, .int .i64 0] 48 (0, 0))) :
    Calls Try.prog 77 #[.slice (some ⟨b, 0, none⟩) 1 1, .int .i64 4] w (Nones w 4) := by
  have hmk : ∀ w, (Instr.makeSlice 49 (.int .i64 4) (.int .i64 4)).run Try.prog w = .ok (.slice (some ⟨w.heap.size, 0, none⟩) 4 4) (w.alloc (.cells #[.int .i64 0, .int .i64 0, .int .i64 0, .int .i64 0, .int .i64 0, .int .i64 0, .int .i64 0, .int .i64 0] 48)) := fun _ => by kernel_rfl
  go_enter Try.func77, Try.ntmps77
  go_wp2_with fail
  refine (mul_4 _).mono ?_
  rintro e w' ⟨rfl, rfl⟩
  go_upto_region 7 with fail
  refine wp_world (fun W => W.heap[b]? = some (.cells #[.int .i64 1, .int .i64 0] 48 (0, 0)) ∧ W.heap[w.heap.size]? = some (.cells #[.int .i64 0, .int .i64 0, .int .i64 0, .int .i64 0, .int .i64 0, .int .i64 0, .int .i64 0, .int .i64 0] 48 (0, 0)) ∧ Below w.heap.size w W) ⟨blkUp hb _, blkA _ _ rfl, (Below.refl _ _).alloc (Nat.le_refl _) _⟩ ?_
  clear hmk
  rintro w1 ⟨kb, k0, hB⟩
  have sb : ∀ (j : Nat) (v : Value), ([.int .i64 1, .int .i64 0] : List Value)[j]? = some v → w1.cell? ((⟨b, 0, none⟩ : Addr).add j) = some v := fun j v h => by
    match j, h with
    | 0, h => exact (row_of kb 0).trans h
    | 1, h => exact (row_of kb 1).trans h
    | j + 2, h => simp at h
  replace sb := Lib.hid sb
  go_wp2_with (refine wpList_copy_sz rfl _ _ _ _ rfl 48 Try.underlying49 2 size_itv w.heap.size 0 4 4 ⟨b, 0, none⟩ 1 1 1 (by rfl) (by rfl) _ _ k0 [.int .i64 1, .int .i64 0] (by rfl) (by rfl) sb.out (by simp) (by simp [Value.oneCell']) #[.int .i64 1, .int .i64 0, .int .i64 0, .int .i64 0, .int .i64 0, .int .i64 0, .int .i64 0, .int .i64 0] (by rfl) (blk_lt k0) ?_; intro w2 k2 hb2)
  replace hB := hB.trans hb2
  clear hb2 k0 kb sb
  refine wp_loop_rounds 3 ?_
  rw [rounds_succ]
  go_upto_region 9 with fail
  have kd2 : w2.drew.heap[w.heap.size]? = some (.cells #[.int .i64 1, .int .i64 0, .int .i64 0, .int .i64 0, .int .i64 0, .int .i64 0, .int .i64 0, .int .i64 0] 48 (0, 0)) := k2
  have sc : ∀ (j : Nat) (v : Value), ([.int .i64 1, .int .i64 0] : List Value)[j]? = some v → w2.drew.cell? ((⟨w.heap.size, 0, none⟩ : Addr).add j) = some v := fun j v h => by
    match j, h with
    | 0, h => exact (row_of kd2 0).trans h
    | 1, h => exact (row_of kd2 1).trans h
    | j + 2, h => simp at h
  replace sc := Lib.hid sc
  go_region_law (first
    | (refine step_copy_sz (by rfl) _ _ _ _ (by rfl) 48 Try.underlying49 2 size_itv w.heap.size 2 3 3 ⟨w.heap.size, 0, none⟩ 1 4 1 (by go_simp) (by go_simp) _ _ kd2 [.int .i64 1, .int .i64 0] (by rfl) (by rfl) sc.out (by simp) (by simp [Value.oneCell']) #[.int .i64 1, .int .i64 0, .int .i64 1, .int .i64 0, .int .i64 0, .int .i64 0, .int .i64 0, .int .i64 0] (by rfl) (blk_lt kd2) ?_; intro w3 k3 hb3))
  replace hB := (hB.drew).trans hb3
  clear hb3 k2 sc kd2
  go_wp2_with fail
  rw [rounds_succ]
  go_upto_region 9 with fail
  have kd3 : w3.drew.heap[w.heap.size]? = some (.cells #[.int .i64 1, .int .i64 0, .int .i64 1, .int .i64 0, .int .i64 0, .int .i64 0, .int .i64 0, .int .i64 0] 48 (0, 0)) := k3
  have sc : ∀ (j : Nat) (v : Value), ([.int .i64 1, .int .i64 0, .int .i64 1, .int .i64 0] : List Value)[j]? = some v → w3.drew.cell? ((⟨w.heap.size, 0, none⟩ : Addr).add j) = some v := fun j v h => by
    match j, h with
    | 0, h => exact (row_of kd3 0).trans h
    | 1, h => exact (row_of kd3 1).trans h
    | 2, h => exact (row_of kd3 2).trans h
    | 3, h => exact (row_of kd3 3).trans h
    | j + 4, h => simp at h
  replace sc := Lib.hid sc
  go_region_law (first
    | (refine step_copy_sz (by rfl) _ _ _ _ (by rfl) 48 Try.underlying49 2 size_itv w.heap.size 4 2 2 ⟨w.heap.size, 0, none⟩ 2 4 2 (by go_simp) (by go_simp) _ _ kd3 [.int .i64 1, .int .i64 0, .int .i64 1, .int .i64 0] (by rfl) (by rfl) sc.out (by simp) (by simp [Value.oneCell']) #[.int .i64 1, .int .i64 0, .int .i64 1, .int .i64 0, .int .i64 1, .int .i64 0, .int .i64 1, .int .i64 0] (by rfl) (blk_lt kd3) ?_; intro w4 k4 hb4))
  replace hB := (hB.drew).trans hb4
  clear hb4 k3 sc kd3
  go_wp2_with fail
  rw [rounds_succ]
  go_wp2_with fail
  go_ret
  exact ⟨w.heap.size, rfl, ⟨by rfl, .inr ⟨w.heap.size, 4, _, rfl, Nat.le_refl _, k4, Nat.le_refl _, by unfold maxLen; decide, by rfl, by rfl⟩⟩, hB⟩
end Go.Proofs.Ytbcbcambkjhhhaa
