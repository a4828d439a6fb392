/-
  queue.Within.
-/
import Derived.Test.YtgepaajhccadhaaQk
namespace Go.Proofs.Ytgepaajhccadhaa
open Go.RowKit
/-- Has the second row, place by place, all that the first one has? -/
def rowsIn (xs ys : List (Int × Int)) : Bool := (xs.zip ys).all fun p => withinB p.1.1 p.1.2 p.2.1 p.2.2
/-- Has the second Elem all that the first one has? -/
def inP (l h : Int) (xs : List (Int × Int)) (l' h' : Int) (ys : List (Int × Int)) : Bool := decide (xs.length = ys.length) && (rowsIn xs ys && withinB l h l' h')
theorem zip_at {xs ys : List (Int × Int)} {k : Nat} {p q : Int × Int} (h : xs[k]? = some p) (h' : ys[k]? = some q) : (xs.zip ys)[k]? = some (p, q) := by simp [List.getElem?_zip_eq_some, h, h']
theorem rowsIn_no {xs ys : List (Int × Int)} {k : Nat} {a b c d : Int} (h : xs[k]? = some (a, b)) (h' : ys[k]? = some (c, d)) (hf : withinB a b c d = false) : rowsIn xs ys = false := by
  unfold rowsIn
  rw [List.all_eq_false]
  exact ⟨_, List.mem_of_getElem? (zip_at h h'), by simp [hf]⟩
theorem rowsIn_yes {xs ys : List (Int × Int)} {n : Nat} (hn : xs.length = n) (h : ∀ j < n, ∀ a b c d, xs[j]? = some (a, b) → ys[j]? = some (c, d) → withinB a b c d = true) : rowsIn xs ys = true := by
  unfold rowsIn
  rw [List.all_eq_true]
  intro p hp
  obtain ⟨j, hj⟩ := List.getElem?_of_mem hp
  obtain ⟨⟨a, b⟩, ⟨c, d⟩⟩ := p
  rw [List.getElem?_zip_eq_some] at hj
  have : j < xs.length := by rcases Nat.lt_or_ge j xs.length with h | h; exact h; rw [List.getElem?_eq_none h] at hj; cases hj.1
  exact h j (by omega) a b c d hj.1 hj.2
def WiRel (w : World) (l h l' h' : Int) (A B : Option Addr) (n c n' c' : Nat) (xs ys : List (Int × Int)) (vi : Value) (wr : World) : Prop := ∃ k : Nat, k ≤ n ∧ vi = .int .i64 k ∧ wr.heap[w.heap.size]? = some (.cells #[.int .i64 l, .int .i64 h, .slice A n c] 28 (0, 0)) ∧ wr.heap[w.heap.size + 1]? = some (.cells #[.int .i64 l', .int .i64 h', .slice B n' c'] 28 (0, 0)) ∧ (∀ j < k, ∀ a b c d, xs[j]? = some (a, b) → ys[j]? = some (c, d) → withinB a b c d = true) ∧ Below w.heap.size w wr
set_option maxRecDepth 100000 in
set_option maxHeartbeats 4000000 in
theorem within_un (l h l' h' : Int) (A B : Option Addr) (n c n' c' : Nat) (xs ys : List (Int × Int)) (w : World) (hn : xs.length = n) (hm : ys.length = n') (hne : n ≠ n') :
    Calls Try.prog 16 #[.agg #[.int .i64 l, .int .i64 h, .slice A n c], .agg #[.int .i64 l', .int .i64 h', .slice B n' c']] w fun e w' => e = .returned (.bool (inP l h xs l' h' ys)) ∧ Below w.heap.size w w' := by
  have hv : inP l h xs l' h' ys = false := by unfold inP; rw [decide_eq_false (by omega)]; rfl
  replace hv := Lib.hid hv
  have hd : ((n : Int) == (n' : Int)) = false := by rw [beq_eq_false_iff_ne]; omega
  have hd2 : ((n : Int) != (n' : Int)) = true := by rw [bne, hd]; rfl
  clear hn hm hne
  go_enter Try.func16, Try.ntmps16
  go_wp2_with fail
  go_ret
  exact ⟨by rw [hv.out]; rfl, ((Below.refl _ _).alloc (Nat.le_refl _) _).alloc (by simp only [World.size_alloc]; omega) _⟩
set_option maxRecDepth 100000 in
set_option maxHeartbeats 4000000 in
theorem within_row (l h l' h' : Int) (A B : Option Addr) (n c c' : Nat) (xs ys : List (Int × Int)) (w : World) (hn : xs.length = n) (hm : ys.length = n) (hs : n ≤ 9223372036854775807) (hx : PRow w A xs) (hy : PRow w B ys) :
    Calls Try.prog 16 #[.agg #[.int .i64 l, .int .i64 h, .slice A n c], .agg #[.int .i64 l', .int .i64 h', .slice B n c']] w fun e w' => e = .returned (.bool (inP l h xs l' h' ys)) ∧ Below w.heap.size w w' := by
  have hlast := Lib.hid (fun W => within_any l h l' h' W)
  have hd : decide (xs.length = ys.length) = true := decide_eq_true (by omega)
  replace hx := Lib.hid hx
  replace hy := Lib.hid hy
  replace hd := Lib.hid hd
  replace hn := Lib.hid hn
  replace hm := Lib.hid hm
  go_enter Try.func16, Try.ntmps16
  go_wp2_with fail
  go_loopw [17] (fun vi wr => WiRel w l h l' h' A B n c n c' xs ys vi wr) (fun i _ => n - (intOf i).toNat)
  case atStart => exact ⟨0, Nat.zero_le _, rfl, blkUp (blkA _ _ rfl) _, blkA _ _ (by simp only [World.size_alloc]), fun j hj => absurd hj (by omega), ((Below.refl _ _).alloc (Nat.le_refl _) _).alloc (by simp only [World.size_alloc]; omega) _⟩
  case round =>
    obtain ⟨k, hk, rfl, k0, k1, hok, hB⟩ := hrel
    replace hok := Lib.hid hok
    by_cases hlt : k < n
    · have hlt2 : (k : Int) < (n : Int) := by omega
      have hk0 : (0 : Int) ≤ (k : Int) := by omega
      obtain ⟨p0, p1, hp⟩ := pair_at hn.out hlt
      obtain ⟨a, rfl, hab, a0, a1⟩ := prow_at (prow_keep hx.out hB) hp
      obtain ⟨y0, y1, hq⟩ := pair_at hm.out hlt
      obtain ⟨b, rfl, hbb, b0, b1⟩ := prow_at (prow_keep hy.out hB) hq
      replace hp := Lib.hid hp
      replace hq := Lib.hid hq
      go_upto_region 6 with fail
      refine wp_world (fun W => W.heap[w.heap.size]? = some (.cells #[.int .i64 l, .int .i64 h, .slice (some a) n c] 28 (0, 0)) ∧ W.heap[w.heap.size + 1]? = some (.cells #[.int .i64 l', .int .i64 h', .slice (some b) n c'] 28 (0, 0)) ∧ W.heap[wr.heap.size]? = some (.cells #[.int .i64 p0, .int .i64 p1] 25 (0, 0)) ∧ W.cell? (b.add (k * 2)) = some (.int .i64 y0) ∧ W.cell? ⟨(b.add (k * 2)).block, (b.add (k * 2)).off + 1, none⟩ = some (.int .i64 y1) ∧ wr.heap.size ≤ W.heap.size ∧ Below w.heap.size w W) ⟨blkUp k0 _, blkUp k1 _, blkA _ _ rfl, ((Below.refl wr.heap.size wr).alloc (Nat.le_refl _) _ |>.cell (p := b.add (k * 2)) hbb).trans b0, ((Below.refl wr.heap.size wr).alloc (Nat.le_refl _) _ |>.cell (p := ⟨(b.add (k * 2)).block, (b.add (k * 2)).off + 1, none⟩) hbb).trans b1, by simp only [World.size_alloc]; omega, hB.alloc hB.size _⟩ ?_
      have hw1 := hB.size
      have hw0 := blk_lt k0
      clear k0 k1 hB a0 a1 b0 b1
      rintro w2 ⟨k0, k1, k2, b0, b1, hz2, hB⟩
      replace hbb := Nat.lt_of_lt_of_le hbb hz2
      clear hz2
      obtain ⟨V, hV⟩ : ∃ V, withinB p0 p1 y0 y1 = V := ⟨_, rfl⟩
      have hin := Lib.hid (fun W => by have t := within_any p0 p1 y0 y1 W; rw [hV] at t; exact t)
      replace hV := Lib.hid hV
      have mkS : ∀ W, Below w2.heap.size w2 W → (fun W => W.cell? ⟨w.heap.size + 1, 0, none⟩ = some (.int .i64 l') ∧ W.cell? ⟨w.heap.size + 1, 1, none⟩ = some (.int .i64 h') ∧ W.cell? ⟨w.heap.size + 1, 2, none⟩ = some (.slice (some b) n c') ∧ W.cell? ⟨wr.heap.size, 0, none⟩ = some (.int .i64 p0) ∧ W.cell? ⟨wr.heap.size, 1, none⟩ = some (.int .i64 p1) ∧ W.cell? (b.add (k * 2)) = some (.int .i64 y0) ∧ W.cell? ⟨(b.add (k * 2)).block, (b.add (k * 2)).off + 1, none⟩ = some (.int .i64 y1)) W := fun W h => ⟨row_of (blk_keep h k1) 0, row_of (blk_keep h k1) 1, row_of (blk_keep h k1) 2, row_of (blk_keep h k2) 0, row_of (blk_keep h k2) 1, (h.cell (p := b.add (k * 2)) hbb).trans b0, (h.cell (p := ⟨(b.add (k * 2)).block, (b.add (k * 2)).off + 1, none⟩) hbb).trans b1⟩
      dsimp only at mkS
      have hBn := Below.refl w2.heap.size w2
      have s0 := k0
      have s1 := k1
      clear k0 k1 k2 b0 b1
      refine wp_region_held_drew (S := fun W => W.cell? ⟨w.heap.size + 1, 0, none⟩ = some (.int .i64 l') ∧ W.cell? ⟨w.heap.size + 1, 1, none⟩ = some (.int .i64 h') ∧ W.cell? ⟨w.heap.size + 1, 2, none⟩ = some (.slice (some b) n c') ∧ W.cell? ⟨wr.heap.size, 0, none⟩ = some (.int .i64 p0) ∧ W.cell? ⟨wr.heap.size, 1, none⟩ = some (.int .i64 p1) ∧ W.cell? (b.add (k * 2)) = some (.int .i64 y0) ∧ W.cell? ⟨(b.add (k * 2)).block, (b.add (k * 2)).off + 1, none⟩ = some (.int .i64 y1)) (by kernel_rfl) ?_ (fun hHeld => ?_)
      · first | (with_reducible exact mkS _ hBn) | (with_reducible exact mkS _ (Below.drew hBn))
      refine take_at 0 (some 22) (v := ?v1_0) rfl rfl (by kernel_rfl) (by kernel_rfl) (by kernel_rfl) (fun _ _ _ h => h) (Or.inl ⟨by rfl, ?hy1_0⟩) (by assumption) ?rest1_0
      case hy1_0 => (intro w hSw; (try dsimp only at hSw); go_simp; (try with_reducible rfl))
      (try simp only [Act.put, List.setIfInBounds_toArray, List.set_cons_zero, List.set_cons_succ])
      refine take_at 1 (some 23) (v := ?v1_1) rfl rfl (by kernel_rfl) (by kernel_rfl) (by kernel_rfl) (fun _ _ _ h => h) (Or.inl ⟨by rfl, ?hy1_1⟩) (by assumption) ?rest1_1
      case hy1_1 => (intro w hSw; (try dsimp only at hSw); go_simp; (try with_reducible rfl))
      (try simp only [Act.put, List.setIfInBounds_toArray, List.set_cons_zero, List.set_cons_succ])
      refine take_at 2 (some 24) (v := ?v1_2) rfl rfl (by kernel_rfl) (by kernel_rfl) (by kernel_rfl) (fun _ _ _ h => h) (Or.inl ⟨by rfl, ?hy1_2⟩) (by assumption) ?rest1_2
      case hy1_2 => (intro w hSw; (try dsimp only at hSw); go_simp; (try with_reducible rfl))
      (try simp only [Act.put, List.setIfInBounds_toArray, List.set_cons_zero, List.set_cons_succ])
      refine take_at 3 (some 25) (v := ?v1_3) rfl rfl (by kernel_rfl) (by kernel_rfl) (by kernel_rfl) (fun _ _ _ h => h) (Or.inl ⟨by rfl, ?hy1_3⟩) (by assumption) ?rest1_3
      case hy1_3 => (intro w hSw; (try dsimp only at hSw); go_simp; (try with_reducible rfl))
      (try simp only [Act.put, List.setIfInBounds_toArray, List.set_cons_zero, List.set_cons_succ])
      refine take_at 4 (some 26) (v := ?v1_4) rfl rfl (by kernel_rfl) (by kernel_rfl) (by kernel_rfl) (fun _ _ _ h => h) (Or.inl ⟨by rfl, ?hy1_4⟩) (by assumption) ?rest1_4
      case hy1_4 => (intro w hSw; (try dsimp only at hSw); go_simp; (try with_reducible rfl))
      (try simp only [Act.put, List.setIfInBounds_toArray, List.set_cons_zero, List.set_cons_succ])
      refine take_at 5 (some 27) (v := ?v1_5) rfl rfl (by kernel_rfl) (by kernel_rfl) (by kernel_rfl) (fun _ _ _ h => h) (Or.inl ⟨by rfl, ?hy1_5⟩) (by assumption) ?rest1_5
      case hy1_5 => (intro w hSw; (try dsimp only at hSw); go_simp; (try with_reducible rfl))
      (try simp only [Act.put, List.setIfInBounds_toArray, List.set_cons_zero, List.set_cons_succ])
      refine only_at 6 (some 28) _ rfl rfl rfl (by kernel_rfl) (by rfl) (fun K hK => ?_)
      go_simp
      refine (hin.out _).mono ?_
      rintro e wn ⟨rfl, hbS⟩
      (try (with_reducible replace hbS := below_undrew hbS))
      replace hBn := below_tr hBn hbS
      refine hK.out _ _ ?_ (fun hHeld => ?_)
      · first | (with_reducible exact mkS _ hBn) | (with_reducible exact mkS _ (Below.drew hBn))
      clear hK K
      (try simp only [Act.put, List.setIfInBounds_toArray, List.set_cons_zero, List.set_cons_succ])
      refine take_at 7 (some 29) (v := ?v1_7) rfl rfl (by kernel_rfl) (by kernel_rfl) (by kernel_rfl) (fun _ _ _ h => h) (Or.inl ⟨by rfl, ?hy1_7⟩) (by assumption) ?rest1_7
      case hy1_7 => (intro w hSw; (try dsimp only at hSw); go_simp; (try with_reducible rfl))
      (try simp only [Act.put, List.setIfInBounds_toArray, List.set_cons_zero, List.set_cons_succ])
      refine wpAnyH_done (by kernel_rfl) ?_ _
      cases V
      · go_wp2_with fail
        go_ret
        exact ⟨by unfold inP; rw [hd.out, rowsIn_no hp.out hq.out hV.out]; rfl, below_tr hB (by first | exact hBn | exact Below.drew hBn)⟩
      · go_upto_region 8 with fail
        refine wp_world (fun W => W.heap[w.heap.size]? = some (.cells #[.int .i64 l, .int .i64 h, .slice (some a) n c] 28 (0, 0)) ∧ W.heap[w.heap.size + 1]? = some (.cells #[.int .i64 l', .int .i64 h', .slice (some b) n c'] 28 (0, 0)) ∧ Below w.heap.size w W) (by first | exact ⟨blk_keep hBn s0, blk_keep hBn s1, hB.trans (hBn.mono hB.size)⟩ | exact ⟨blk_keep (Below.drew hBn) s0, blk_keep (Below.drew hBn) s1, hB.trans ((Below.drew hBn).mono hB.size)⟩) ?_
        clear s0 s1 hB hBn mkS hbb hab
        rintro w4 ⟨k0, k1, hB⟩
        go_wp2_with fail
        refine ⟨⟨k + 1, by omega, by go_num, k0, k1, fun i hi a' b' c' d' hpi hqi => ?_, hB⟩, by simp [intOf]; omega⟩
        by_cases hik : i < k
        · exact hok.out i hik a' b' c' d' hpi hqi
        · obtain rfl : i = k := by omega
          rw [hp.out] at hpi
          rw [hq.out] at hqi
          cases hpi
          cases hqi
          exact hV.out
    · have hlt2 : ¬ (k : Int) < (n : Int) := by omega
      obtain rfl : k = n := by omega
      have r0 := row_of k0
      have z0 := blk_lt k0
      have r1 := row_of k1
      have z1 := blk_lt k1
      go_wp2_with fail
      refine (hlast.out _).mono ?_
      rintro e w3 ⟨rfl, hb⟩
      go_wp2_with fail
      go_ret
      refine ⟨?_, hB.trans (hb.mono hB.size)⟩
      unfold inP
      rw [hd.out, rowsIn_yes hn.out hok.out, Bool.true_and, Bool.true_and]
      try rfl
end Go.Proofs.Ytgepaajhccadhaa
