/-
  queue.Has: rows of pairs, wherever they lie.
-/
import Derived.Test.YtgepaajhccadhaaQf
import Derived.Test.YtgepaajhccadhaaIh
namespace Go.Proofs.Ytgepaajhccadhaa
open Go.RowKit
theorem add_block (a : Addr) (n : Nat) : (a.add n).block = a.block := by unfold Addr.add; split <;> rfl
theorem add_one (a : Addr) (n : Nat) : a.add (n + 1) = ⟨(a.add n).block, (a.add n).off + 1, none⟩ := by rw [← Addr.add_add]; rfl
/-- A row of pairs in memory: nothing, or its cells. -/
def PRow (w : World) (A : Option Addr) (xs : List (Int × Int)) : Prop := xs = [] ∨ ∃ a : Addr, A = some a ∧ a.block < w.heap.size ∧ ∀ k p0 p1, xs[k]? = some (p0, p1) → w.cell? (a.add (k * 2)) = some (.int .i64 p0) ∧ w.cell? ⟨(a.add (k * 2)).block, (a.add (k * 2)).off + 1, none⟩ = some (.int .i64 p1)
theorem prow_keep {w w' : World} {A : Option Addr} {xs : List (Int × Int)} (h : PRow w A xs) (hb : Below w.heap.size w w') : PRow w' A xs := by
  rcases h with h | ⟨a, rfl, hab, hc⟩
  · exact .inl h
  · refine .inr ⟨a, rfl, Nat.lt_of_lt_of_le hab hb.size, fun k p0 p1 hp => ?_⟩
    have hk : (a.add (k * 2)).block < w.heap.size := by rw [add_block]; exact hab
    exact ⟨(hb.cell (p := a.add (k * 2)) hk).trans (hc k p0 p1 hp).1, (hb.cell (p := ⟨(a.add (k * 2)).block, (a.add (k * 2)).off + 1, none⟩) hk).trans (hc k p0 p1 hp).2⟩
theorem prow_elem {W : World} {base : Nat} {t : TypeId} {g cap : Nat} {xs : List (Int × Int)} (h : ElemAt W base t g cap xs) : PRow W (some ⟨g, 0, none⟩) xs := by
  refine .inr ⟨⟨g, 0, none⟩, rfl, (elem_ge h).2, fun k p0 p1 hp => ?_⟩
  have hk : k < xs.length := by rcases Nat.lt_or_ge k xs.length with h | h; exact h; rw [List.getElem?_eq_none h] at hp; cases hp
  have e : (⟨g, 0, none⟩ : Addr).add (k * 2) = ⟨g, k * 2, none⟩ := by simp [Addr.add]; omega
  rw [e]
  exact elem_cells h rfl hk hp
theorem prow_at {w : World} {A : Option Addr} {xs : List (Int × Int)} {k : Nat} {p0 p1 : Int} (h : PRow w A xs) (hp : xs[k]? = some (p0, p1)) : ∃ a : Addr, A = some a ∧ (a.add (k * 2)).block < w.heap.size ∧ w.cell? (a.add (k * 2)) = some (.int .i64 p0) ∧ w.cell? ⟨(a.add (k * 2)).block, (a.add (k * 2)).off + 1, none⟩ = some (.int .i64 p1) := by
  rcases h with rfl | ⟨a, rfl, hab, hc⟩
  · simp at hp
  · exact ⟨a, rfl, by rw [add_block]; exact hab, hc k p0 p1 hp⟩
theorem pair_at {xs : List (Int × Int)} {n k : Nat} (hn : xs.length = n) (hk : k < n) : ∃ p0 p1, xs[k]? = some (p0, p1) := ⟨_, _, List.getElem?_eq_getElem (by rw [hn]; exact hk)⟩
/-- May this message be there? -/
def okM (xs : List (Int × Int)) (p : Int × Int) : Bool := decide (0 ≤ p.1 ∧ p.1 < xs.length) && decide ((xs.getD p.1.toNat (1, 0)).1 ≤ p.2 ∧ p.2 ≤ (xs.getD p.1.toNat (1, 0)).2)
/-- May these messages be there? -/
def hasP (l h : Int) (xs qs : List (Int × Int)) : Bool := qs.all (okM xs) && decide (l ≤ (qs.length : Int) ∧ (qs.length : Int) ≤ h)
theorem all_no {f : (Int × Int) → Bool} {qs : List (Int × Int)} {k : Nat} {p : Int × Int} (h : qs[k]? = some p) (hf : f p = false) : qs.all f = false := by
  rw [List.all_eq_false]
  exact ⟨p, List.mem_of_getElem? h, by simp [hf]⟩
theorem all_yes {f : (Int × Int) → Bool} {qs : List (Int × Int)} {n : Nat} (hn : qs.length = n) (h : ∀ j < n, ∀ p, qs[j]? = some p → f p = true) : qs.all f = true := by
  rw [List.all_eq_true]
  intro p hp
  obtain ⟨j, hj⟩ := List.getElem?_of_mem hp
  have : j < qs.length := by rcases Nat.lt_or_ge j qs.length with h | h; exact h; rw [List.getElem?_eq_none h] at hj; cases hj
  exact h j (by omega) p hj
def HsRel (w : World) (l h : Int) (A : Option Addr) (n c m : Nat) (xs qs : List (Int × Int)) (vi : Value) (wr : World) : Prop := ∃ k : Nat, k ≤ m ∧ vi = .int .i64 k ∧ wr.heap[w.heap.size]? = some (.cells #[.int .i64 l, .int .i64 h, .slice A n c] 28 (0, 0)) ∧ (∀ j < k, ∀ p, qs[j]? = some p → okM xs p = true) ∧ Below w.heap.size w wr
set_option maxRecDepth 100000 in
set_option maxHeartbeats 4000000 in
theorem has_row (l h : Int) (A Q : Option Addr) (n c m cq : Nat) (xs qs : List (Int × Int)) (w : World) (hn : xs.length = n) (hm : qs.length = m) (_hs : n ≤ 9223372036854775807) (hsm : m ≤ 9223372036854775807) (hx : PRow w A xs) (hq : PRow w Q qs) :
    Calls Try.prog 15 #[.agg #[.int .i64 l, .int .i64 h, .slice A n c], .slice Q m cq] w fun e w' => e = .returned (.bool (hasP l h xs qs)) ∧ Below w.heap.size w w' := by
  have hlast := Lib.hid (fun W => has_any l h (m : Int) W)
  replace hx := Lib.hid hx
  replace hq := Lib.hid hq
  replace hn := Lib.hid hn
  replace hm := Lib.hid hm
  go_enter Try.func15, Try.ntmps15
  go_wp2_with fail
  go_loopw [9] (fun vi wr => HsRel w l h A n c m xs qs vi wr) (fun i _ => m - (intOf i).toNat)
  case atStart => exact ⟨0, Nat.zero_le _, rfl, blkA _ _ rfl, fun j hj => absurd hj (by omega), (Below.refl _ _).alloc (Nat.le_refl _) _⟩
  case round =>
    obtain ⟨k, hk, rfl, k0, hok, hB⟩ := hrel
    replace hok := Lib.hid hok
    by_cases hlt : k < m
    · have hlt2 : (k : Int) < (m : Int) := by omega
      have hk0 : (0 : Int) ≤ (k : Int) := by omega
      obtain ⟨t, v, hp⟩ := pair_at hm.out hlt
      obtain ⟨q, rfl, hqb, q0, q1⟩ := prow_at (prow_keep hq.out hB) hp
      replace hp := Lib.hid hp
      go_upto_region 4 with fail
      refine wp_world (fun W => W.heap[w.heap.size]? = some (.cells #[.int .i64 l, .int .i64 h, .slice A n c] 28 (0, 0)) ∧ W.heap[wr.heap.size]? = some (.cells #[.int .i64 t, .int .i64 v] 47 (0, 0)) ∧ Below w.heap.size w W) ⟨blkUp k0 _, blkA _ _ rfl, hB.alloc hB.size _⟩ ?_
      have hw1 := hB.size
      have hw0 := blk_lt k0
      clear k0 hB q0 q1 hqb
      rintro w2 ⟨k0, k1, hB⟩
      by_cases hin : 0 ≤ t ∧ t < (n : Int)
      · obtain ⟨j, rfl⟩ : ∃ j : Nat, t = (j : Int) := ⟨t.toNat, by omega⟩
        have hjn : j < n := by omega
        have hj2 : (j : Int) < (n : Int) := by omega
        have hj0 : (0 : Int) ≤ (j : Int) := by omega
        obtain ⟨p0, p1, hxp⟩ := pair_at hn.out hjn
        obtain ⟨a, rfl, hab, a0, a1⟩ := prow_at (prow_keep hx.out hB) hxp
        have hpl := Lib.hid (fun W => by have t := isPlace_any (j : Int) (n : Int) W; rw [decide_eq_true (show (0 : Int) ≤ (j : Int) ∧ (j : Int) < (n : Int) by omega)] at t; exact t)
        have hokm : okM xs ((j : Int), v) = decide (p0 ≤ v ∧ v ≤ p1) := by
          unfold okM
          rw [decide_eq_true (show (0 : Int) ≤ ((j : Int), v).1 ∧ ((j : Int), v).1 < (xs.length : Int) by rw [hn.out]; exact ⟨hj0, hj2⟩)]
          simp [List.getD, hxp]
        replace hokm := Lib.hid hokm
        clear hin
        by_cases hin : p0 ≤ v ∧ v ≤ p1
        · have hhas := Lib.hid (fun W => by have t := has_any p0 p1 v W; rw [decide_eq_true hin] at t; exact t)
          replace hokm := hokm.out
          rw [decide_eq_true hin] at hokm
          replace hokm := Lib.hid hokm
          clear hin
          have mkS : ∀ W, Below w2.heap.size w2 W → (fun W => W.cell? ⟨w.heap.size, 0, none⟩ = some (.int .i64 l) ∧ W.cell? ⟨w.heap.size, 1, none⟩ = some (.int .i64 h) ∧ W.cell? ⟨w.heap.size, 2, none⟩ = some (.slice (some a) n c) ∧ W.cell? ⟨wr.heap.size, 0, none⟩ = some (.int .i64 j) ∧ W.cell? ⟨wr.heap.size, 1, none⟩ = some (.int .i64 v) ∧ W.cell? (a.add (j * 2)) = some (.int .i64 p0) ∧ W.cell? ⟨(a.add (j * 2)).block, (a.add (j * 2)).off + 1, none⟩ = some (.int .i64 p1)) W := fun W h => ⟨row_of (blk_keep h k0) 0, row_of (blk_keep h k0) 1, row_of (blk_keep h k0) 2, row_of (blk_keep h k1) 0, row_of (blk_keep h k1) 1, (h.cell (p := a.add (j * 2)) hab).trans a0, (h.cell (p := ⟨(a.add (j * 2)).block, (a.add (j * 2)).off + 1, none⟩) hab).trans a1⟩
          dsimp only at mkS
          have hBn := Below.refl w2.heap.size w2
          have s0 := k0
          clear k0 k1
          refine wp_region_held_drew (S := fun W => W.cell? ⟨w.heap.size, 0, none⟩ = some (.int .i64 l) ∧ W.cell? ⟨w.heap.size, 1, none⟩ = some (.int .i64 h) ∧ W.cell? ⟨w.heap.size, 2, none⟩ = some (.slice (some a) n c) ∧ W.cell? ⟨wr.heap.size, 0, none⟩ = some (.int .i64 j) ∧ W.cell? ⟨wr.heap.size, 1, none⟩ = some (.int .i64 v) ∧ W.cell? (a.add (j * 2)) = some (.int .i64 p0) ∧ W.cell? ⟨(a.add (j * 2)).block, (a.add (j * 2)).off + 1, none⟩ = some (.int .i64 p1)) (by kernel_rfl) ?_ (fun hHeld => ?_)
          · first | (with_reducible exact mkS _ hBn) | (with_reducible exact mkS _ (Below.drew hBn))
          refine take_at 0 (some 13) (v := ?v1_0) rfl rfl (by kernel_rfl) (by kernel_rfl) (by kernel_rfl) (fun _ _ _ h => h) (Or.inl ⟨by rfl, ?hy1_0⟩) (by assumption) ?rest1_0
          case hy1_0 => (intro w hSw; (try dsimp only at hSw); go_simp; (try with_reducible rfl))
          (try simp only [Act.put, List.setIfInBounds_toArray, List.set_cons_zero, List.set_cons_succ])
          refine take_at 1 (some 14) (v := ?v1_1) rfl rfl (by kernel_rfl) (by kernel_rfl) (by kernel_rfl) (fun _ _ _ h => h) (Or.inl ⟨by rfl, ?hy1_1⟩) (by assumption) ?rest1_1
          case hy1_1 => (intro w hSw; (try dsimp only at hSw); go_simp; (try with_reducible rfl))
          (try simp only [Act.put, List.setIfInBounds_toArray, List.set_cons_zero, List.set_cons_succ])
          refine take_at 2 (some 15) (v := ?v1_2) rfl rfl (by kernel_rfl) (by kernel_rfl) (by kernel_rfl) (fun _ _ _ h => h) (Or.inl ⟨by rfl, ?hy1_2⟩) (by assumption) ?rest1_2
          case hy1_2 => (intro w hSw; (try dsimp only at hSw); go_simp; (try with_reducible rfl))
          (try simp only [Act.put, List.setIfInBounds_toArray, List.set_cons_zero, List.set_cons_succ])
          refine take_at 3 (some 16) (v := ?v1_3) rfl rfl (by kernel_rfl) (by kernel_rfl) (by kernel_rfl) (fun _ _ _ h => h) (Or.inl ⟨by rfl, ?hy1_3⟩) (by assumption) ?rest1_3
          case hy1_3 => (intro w hSw; (try dsimp only at hSw); go_simp; (try with_reducible rfl))
          (try simp only [Act.put, List.setIfInBounds_toArray, List.set_cons_zero, List.set_cons_succ])
          refine take_at 4 (some 17) (v := ?v1_4) rfl rfl (by kernel_rfl) (by kernel_rfl) (by kernel_rfl) (fun _ _ _ h => h) (Or.inl ⟨by rfl, ?hy1_4⟩) (by assumption) ?rest1_4
          case hy1_4 => (intro w hSw; (try dsimp only at hSw); go_simp; (try with_reducible rfl))
          (try simp only [Act.put, List.setIfInBounds_toArray, List.set_cons_zero, List.set_cons_succ])
          refine only_at 5 (some 18) _ rfl rfl rfl (by kernel_rfl) (by rfl) (fun K hK => ?_)
          go_simp
          refine (hpl.out _).mono ?_
          rintro e wn ⟨rfl, rfl⟩
          refine hK.out _ _ ?_ (fun hHeld => ?_)
          · first | (with_reducible exact mkS _ hBn) | (with_reducible exact mkS _ (Below.drew hBn))
          clear hK K
          (try simp only [Act.put, List.setIfInBounds_toArray, List.set_cons_zero, List.set_cons_succ])
          refine take_at 6 (some 19) (v := ?v1_6) rfl rfl (by kernel_rfl) (by kernel_rfl) (by kernel_rfl) (fun _ _ _ h => h) (Or.inl ⟨by rfl, ?hy1_6⟩) (by assumption) ?rest1_6
          case hy1_6 => (intro w hSw; (try dsimp only at hSw); go_simp; (try with_reducible rfl))
          (try simp only [Act.put, List.setIfInBounds_toArray, List.set_cons_zero, List.set_cons_succ])
          refine take_at 7 (some 20) (v := ?v1_7) rfl rfl (by kernel_rfl) (by kernel_rfl) (by kernel_rfl) (fun _ _ _ h => h) (Or.inl ⟨by rfl, ?hy1_7⟩) (by assumption) ?rest1_7
          case hy1_7 => (intro w hSw; (try dsimp only at hSw); go_simp; (try with_reducible rfl))
          (try simp only [Act.put, List.setIfInBounds_toArray, List.set_cons_zero, List.set_cons_succ])
          refine take_at 8 (some 21) (v := ?v1_8) rfl rfl (by kernel_rfl) (by kernel_rfl) (by kernel_rfl) (fun _ _ _ h => h) (Or.inl ⟨by rfl, ?hy1_8⟩) (by assumption) ?rest1_8
          case hy1_8 => (intro w hSw; (try dsimp only at hSw); go_simp; (try with_reducible rfl))
          (try simp only [Act.put, List.setIfInBounds_toArray, List.set_cons_zero, List.set_cons_succ])
          refine take_at 9 (some 22) (v := ?v1_9) rfl rfl (by kernel_rfl) (by kernel_rfl) (by kernel_rfl) (fun _ _ _ h => h) (Or.inl ⟨by rfl, ?hy1_9⟩) (by assumption) ?rest1_9
          case hy1_9 => (intro w hSw; (try dsimp only at hSw); go_simp; (try with_reducible rfl))
          (try simp only [Act.put, List.setIfInBounds_toArray, List.set_cons_zero, List.set_cons_succ])
          refine take_at 10 (some 23) (v := ?v1_10) rfl rfl (by kernel_rfl) (by kernel_rfl) (by kernel_rfl) (fun _ _ _ h => h) (Or.inl ⟨by rfl, ?hy1_10⟩) (by assumption) ?rest1_10
          case hy1_10 => (intro w hSw; (try dsimp only at hSw); go_simp; (try with_reducible rfl))
          (try simp only [Act.put, List.setIfInBounds_toArray, List.set_cons_zero, List.set_cons_succ])
          refine take_at 11 (some 24) (v := ?v1_11) rfl rfl (by kernel_rfl) (by kernel_rfl) (by kernel_rfl) (fun _ _ _ h => h) (Or.inl ⟨by rfl, ?hy1_11⟩) (by assumption) ?rest1_11
          case hy1_11 => (intro w hSw; (try dsimp only at hSw); go_simp; (try with_reducible rfl))
          (try simp only [Act.put, List.setIfInBounds_toArray, List.set_cons_zero, List.set_cons_succ])
          refine take_at 12 (some 25) (v := ?v1_12) rfl rfl (by kernel_rfl) (by kernel_rfl) (by kernel_rfl) (fun _ _ _ h => h) (Or.inl ⟨by rfl, ?hy1_12⟩) (by assumption) ?rest1_12
          case hy1_12 => (intro w hSw; (try dsimp only at hSw); go_simp; (try with_reducible rfl))
          (try simp only [Act.put, List.setIfInBounds_toArray, List.set_cons_zero, List.set_cons_succ])
          refine take_at 13 (some 26) (v := ?v1_13) rfl rfl (by kernel_rfl) (by kernel_rfl) (by kernel_rfl) (fun _ _ _ h => h) (Or.inl ⟨by rfl, ?hy1_13⟩) (by assumption) ?rest1_13
          case hy1_13 => (intro w hSw; (try dsimp only at hSw); go_simp; (try with_reducible rfl))
          (try simp only [Act.put, List.setIfInBounds_toArray, List.set_cons_zero, List.set_cons_succ])
          refine take_at 14 (some 27) (v := ?v1_14) rfl rfl (by kernel_rfl) (by kernel_rfl) (by kernel_rfl) (fun _ _ _ h => h) (Or.inl ⟨by rfl, ?hy1_14⟩) (by assumption) ?rest1_14
          case hy1_14 => (intro w hSw; (try dsimp only at hSw); go_simp; (try with_reducible rfl))
          (try simp only [Act.put, List.setIfInBounds_toArray, List.set_cons_zero, List.set_cons_succ])
          refine take_at 15 (some 28) (v := ?v1_15) rfl rfl (by kernel_rfl) (by kernel_rfl) (by kernel_rfl) (fun _ _ _ h => h) (Or.inl ⟨by rfl, ?hy1_15⟩) (by assumption) ?rest1_15
          case hy1_15 => (intro w hSw; (try dsimp only at hSw); go_simp; (try with_reducible rfl))
          (try simp only [Act.put, List.setIfInBounds_toArray, List.set_cons_zero, List.set_cons_succ])
          refine only_at 16 (some 29) _ rfl rfl rfl (by kernel_rfl) (by rfl) (fun K hK => ?_)
          go_simp
          refine (hhas.out _).mono ?_
          rintro e wn ⟨rfl, hbS⟩
          (try (with_reducible replace hbS := below_undrew hbS))
          replace hBn := below_tr hBn hbS
          refine hK.out _ _ ?_ (fun hHeld => ?_)
          · first | (with_reducible exact mkS _ hBn) | (with_reducible exact mkS _ (Below.drew hBn))
          clear hK K
          (try simp only [Act.put, List.setIfInBounds_toArray, List.set_cons_zero, List.set_cons_succ])
          refine take_at 17 (some 30) (v := ?v1_17) rfl rfl (by kernel_rfl) (by kernel_rfl) (by kernel_rfl) (fun _ _ _ h => h) (Or.inl ⟨by rfl, ?hy1_17⟩) (by assumption) ?rest1_17
          case hy1_17 => (intro w hSw; (try dsimp only at hSw); go_simp; (try with_reducible rfl))
          (try simp only [Act.put, List.setIfInBounds_toArray, List.set_cons_zero, List.set_cons_succ])
          refine take_at 18 (some 31) (v := ?v1_18) rfl rfl (by kernel_rfl) (by kernel_rfl) (by kernel_rfl) (fun _ _ _ h => h) (Or.inl ⟨by rfl, ?hy1_18⟩) (by assumption) ?rest1_18
          case hy1_18 => (intro w hSw; (try dsimp only at hSw); go_simp; (try with_reducible rfl))
          (try simp only [Act.put, List.setIfInBounds_toArray, List.set_cons_zero, List.set_cons_succ])
          refine wpAnyH_done (by kernel_rfl) ?_ _
          go_upto_region 6 with fail
          refine wp_world (fun W => W.heap[w.heap.size]? = some (.cells #[.int .i64 l, .int .i64 h, .slice (some a) n c] 28 (0, 0)) ∧ Below w.heap.size w W) (by first | exact ⟨blk_keep hBn s0, hB.trans (hBn.mono hB.size)⟩ | exact ⟨blk_keep (Below.drew hBn) s0, hB.trans ((Below.drew hBn).mono hB.size)⟩) ?_
          clear s0 hB hBn mkS a0 a1 hab
          rintro w4 ⟨k0, hB⟩
          go_wp2_with fail
          refine ⟨⟨k + 1, by omega, by go_num, k0, fun i hi p hpi => ?_, hB⟩, by simp [intOf]; omega⟩
          by_cases hik : i < k
          · exact hok.out i hik p hpi
          · obtain rfl : i = k := by omega
            rw [hp.out] at hpi
            injection hpi with e
            subst e
            exact hokm.out
        · have hhas := Lib.hid (fun W => by have t := has_any p0 p1 v W; rw [decide_eq_false hin] at t; exact t)
          replace hokm := hokm.out
          rw [decide_eq_false hin] at hokm
          replace hokm := Lib.hid hokm
          clear hin
          have mkS : ∀ W, Below w2.heap.size w2 W → (fun W => W.cell? ⟨w.heap.size, 0, none⟩ = some (.int .i64 l) ∧ W.cell? ⟨w.heap.size, 1, none⟩ = some (.int .i64 h) ∧ W.cell? ⟨w.heap.size, 2, none⟩ = some (.slice (some a) n c) ∧ W.cell? ⟨wr.heap.size, 0, none⟩ = some (.int .i64 j) ∧ W.cell? ⟨wr.heap.size, 1, none⟩ = some (.int .i64 v) ∧ W.cell? (a.add (j * 2)) = some (.int .i64 p0) ∧ W.cell? ⟨(a.add (j * 2)).block, (a.add (j * 2)).off + 1, none⟩ = some (.int .i64 p1)) W := fun W h => ⟨row_of (blk_keep h k0) 0, row_of (blk_keep h k0) 1, row_of (blk_keep h k0) 2, row_of (blk_keep h k1) 0, row_of (blk_keep h k1) 1, (h.cell (p := a.add (j * 2)) hab).trans a0, (h.cell (p := ⟨(a.add (j * 2)).block, (a.add (j * 2)).off + 1, none⟩) hab).trans a1⟩
          dsimp only at mkS
          have hBn := Below.refl w2.heap.size w2
          have s0 := k0
          clear k0 k1
          refine wp_region_held_drew (S := fun W => W.cell? ⟨w.heap.size, 0, none⟩ = some (.int .i64 l) ∧ W.cell? ⟨w.heap.size, 1, none⟩ = some (.int .i64 h) ∧ W.cell? ⟨w.heap.size, 2, none⟩ = some (.slice (some a) n c) ∧ W.cell? ⟨wr.heap.size, 0, none⟩ = some (.int .i64 j) ∧ W.cell? ⟨wr.heap.size, 1, none⟩ = some (.int .i64 v) ∧ W.cell? (a.add (j * 2)) = some (.int .i64 p0) ∧ W.cell? ⟨(a.add (j * 2)).block, (a.add (j * 2)).off + 1, none⟩ = some (.int .i64 p1)) (by kernel_rfl) ?_ (fun hHeld => ?_)
          · first | (with_reducible exact mkS _ hBn) | (with_reducible exact mkS _ (Below.drew hBn))
          refine take_at 0 (some 13) (v := ?v2_0) rfl rfl (by kernel_rfl) (by kernel_rfl) (by kernel_rfl) (fun _ _ _ h => h) (Or.inl ⟨by rfl, ?hy2_0⟩) (by assumption) ?rest2_0
          case hy2_0 => (intro w hSw; (try dsimp only at hSw); go_simp; (try with_reducible rfl))
          (try simp only [Act.put, List.setIfInBounds_toArray, List.set_cons_zero, List.set_cons_succ])
          refine take_at 1 (some 14) (v := ?v2_1) rfl rfl (by kernel_rfl) (by kernel_rfl) (by kernel_rfl) (fun _ _ _ h => h) (Or.inl ⟨by rfl, ?hy2_1⟩) (by assumption) ?rest2_1
          case hy2_1 => (intro w hSw; (try dsimp only at hSw); go_simp; (try with_reducible rfl))
          (try simp only [Act.put, List.setIfInBounds_toArray, List.set_cons_zero, List.set_cons_succ])
          refine take_at 2 (some 15) (v := ?v2_2) rfl rfl (by kernel_rfl) (by kernel_rfl) (by kernel_rfl) (fun _ _ _ h => h) (Or.inl ⟨by rfl, ?hy2_2⟩) (by assumption) ?rest2_2
          case hy2_2 => (intro w hSw; (try dsimp only at hSw); go_simp; (try with_reducible rfl))
          (try simp only [Act.put, List.setIfInBounds_toArray, List.set_cons_zero, List.set_cons_succ])
          refine take_at 3 (some 16) (v := ?v2_3) rfl rfl (by kernel_rfl) (by kernel_rfl) (by kernel_rfl) (fun _ _ _ h => h) (Or.inl ⟨by rfl, ?hy2_3⟩) (by assumption) ?rest2_3
          case hy2_3 => (intro w hSw; (try dsimp only at hSw); go_simp; (try with_reducible rfl))
          (try simp only [Act.put, List.setIfInBounds_toArray, List.set_cons_zero, List.set_cons_succ])
          refine take_at 4 (some 17) (v := ?v2_4) rfl rfl (by kernel_rfl) (by kernel_rfl) (by kernel_rfl) (fun _ _ _ h => h) (Or.inl ⟨by rfl, ?hy2_4⟩) (by assumption) ?rest2_4
          case hy2_4 => (intro w hSw; (try dsimp only at hSw); go_simp; (try with_reducible rfl))
          (try simp only [Act.put, List.setIfInBounds_toArray, List.set_cons_zero, List.set_cons_succ])
          refine only_at 5 (some 18) _ rfl rfl rfl (by kernel_rfl) (by rfl) (fun K hK => ?_)
          go_simp
          refine (hpl.out _).mono ?_
          rintro e wn ⟨rfl, rfl⟩
          refine hK.out _ _ ?_ (fun hHeld => ?_)
          · first | (with_reducible exact mkS _ hBn) | (with_reducible exact mkS _ (Below.drew hBn))
          clear hK K
          (try simp only [Act.put, List.setIfInBounds_toArray, List.set_cons_zero, List.set_cons_succ])
          refine take_at 6 (some 19) (v := ?v2_6) rfl rfl (by kernel_rfl) (by kernel_rfl) (by kernel_rfl) (fun _ _ _ h => h) (Or.inl ⟨by rfl, ?hy2_6⟩) (by assumption) ?rest2_6
          case hy2_6 => (intro w hSw; (try dsimp only at hSw); go_simp; (try with_reducible rfl))
          (try simp only [Act.put, List.setIfInBounds_toArray, List.set_cons_zero, List.set_cons_succ])
          refine take_at 7 (some 20) (v := ?v2_7) rfl rfl (by kernel_rfl) (by kernel_rfl) (by kernel_rfl) (fun _ _ _ h => h) (Or.inl ⟨by rfl, ?hy2_7⟩) (by assumption) ?rest2_7
          case hy2_7 => (intro w hSw; (try dsimp only at hSw); go_simp; (try with_reducible rfl))
          (try simp only [Act.put, List.setIfInBounds_toArray, List.set_cons_zero, List.set_cons_succ])
          refine take_at 8 (some 21) (v := ?v2_8) rfl rfl (by kernel_rfl) (by kernel_rfl) (by kernel_rfl) (fun _ _ _ h => h) (Or.inl ⟨by rfl, ?hy2_8⟩) (by assumption) ?rest2_8
          case hy2_8 => (intro w hSw; (try dsimp only at hSw); go_simp; (try with_reducible rfl))
          (try simp only [Act.put, List.setIfInBounds_toArray, List.set_cons_zero, List.set_cons_succ])
          refine take_at 9 (some 22) (v := ?v2_9) rfl rfl (by kernel_rfl) (by kernel_rfl) (by kernel_rfl) (fun _ _ _ h => h) (Or.inl ⟨by rfl, ?hy2_9⟩) (by assumption) ?rest2_9
          case hy2_9 => (intro w hSw; (try dsimp only at hSw); go_simp; (try with_reducible rfl))
          (try simp only [Act.put, List.setIfInBounds_toArray, List.set_cons_zero, List.set_cons_succ])
          refine take_at 10 (some 23) (v := ?v2_10) rfl rfl (by kernel_rfl) (by kernel_rfl) (by kernel_rfl) (fun _ _ _ h => h) (Or.inl ⟨by rfl, ?hy2_10⟩) (by assumption) ?rest2_10
          case hy2_10 => (intro w hSw; (try dsimp only at hSw); go_simp; (try with_reducible rfl))
          (try simp only [Act.put, List.setIfInBounds_toArray, List.set_cons_zero, List.set_cons_succ])
          refine take_at 11 (some 24) (v := ?v2_11) rfl rfl (by kernel_rfl) (by kernel_rfl) (by kernel_rfl) (fun _ _ _ h => h) (Or.inl ⟨by rfl, ?hy2_11⟩) (by assumption) ?rest2_11
          case hy2_11 => (intro w hSw; (try dsimp only at hSw); go_simp; (try with_reducible rfl))
          (try simp only [Act.put, List.setIfInBounds_toArray, List.set_cons_zero, List.set_cons_succ])
          refine take_at 12 (some 25) (v := ?v2_12) rfl rfl (by kernel_rfl) (by kernel_rfl) (by kernel_rfl) (fun _ _ _ h => h) (Or.inl ⟨by rfl, ?hy2_12⟩) (by assumption) ?rest2_12
          case hy2_12 => (intro w hSw; (try dsimp only at hSw); go_simp; (try with_reducible rfl))
          (try simp only [Act.put, List.setIfInBounds_toArray, List.set_cons_zero, List.set_cons_succ])
          refine take_at 13 (some 26) (v := ?v2_13) rfl rfl (by kernel_rfl) (by kernel_rfl) (by kernel_rfl) (fun _ _ _ h => h) (Or.inl ⟨by rfl, ?hy2_13⟩) (by assumption) ?rest2_13
          case hy2_13 => (intro w hSw; (try dsimp only at hSw); go_simp; (try with_reducible rfl))
          (try simp only [Act.put, List.setIfInBounds_toArray, List.set_cons_zero, List.set_cons_succ])
          refine take_at 14 (some 27) (v := ?v2_14) rfl rfl (by kernel_rfl) (by kernel_rfl) (by kernel_rfl) (fun _ _ _ h => h) (Or.inl ⟨by rfl, ?hy2_14⟩) (by assumption) ?rest2_14
          case hy2_14 => (intro w hSw; (try dsimp only at hSw); go_simp; (try with_reducible rfl))
          (try simp only [Act.put, List.setIfInBounds_toArray, List.set_cons_zero, List.set_cons_succ])
          refine take_at 15 (some 28) (v := ?v2_15) rfl rfl (by kernel_rfl) (by kernel_rfl) (by kernel_rfl) (fun _ _ _ h => h) (Or.inl ⟨by rfl, ?hy2_15⟩) (by assumption) ?rest2_15
          case hy2_15 => (intro w hSw; (try dsimp only at hSw); go_simp; (try with_reducible rfl))
          (try simp only [Act.put, List.setIfInBounds_toArray, List.set_cons_zero, List.set_cons_succ])
          refine only_at 16 (some 29) _ rfl rfl rfl (by kernel_rfl) (by rfl) (fun K hK => ?_)
          go_simp
          refine (hhas.out _).mono ?_
          rintro e wn ⟨rfl, hbS⟩
          (try (with_reducible replace hbS := below_undrew hbS))
          replace hBn := below_tr hBn hbS
          refine hK.out _ _ ?_ (fun hHeld => ?_)
          · first | (with_reducible exact mkS _ hBn) | (with_reducible exact mkS _ (Below.drew hBn))
          clear hK K
          (try simp only [Act.put, List.setIfInBounds_toArray, List.set_cons_zero, List.set_cons_succ])
          refine take_at 17 (some 30) (v := ?v2_17) rfl rfl (by kernel_rfl) (by kernel_rfl) (by kernel_rfl) (fun _ _ _ h => h) (Or.inl ⟨by rfl, ?hy2_17⟩) (by assumption) ?rest2_17
          case hy2_17 => (intro w hSw; (try dsimp only at hSw); go_simp; (try with_reducible rfl))
          (try simp only [Act.put, List.setIfInBounds_toArray, List.set_cons_zero, List.set_cons_succ])
          refine take_at 18 (some 31) (v := ?v2_18) rfl rfl (by kernel_rfl) (by kernel_rfl) (by kernel_rfl) (fun _ _ _ h => h) (Or.inl ⟨by rfl, ?hy2_18⟩) (by assumption) ?rest2_18
          case hy2_18 => (intro w hSw; (try dsimp only at hSw); go_simp; (try with_reducible rfl))
          (try simp only [Act.put, List.setIfInBounds_toArray, List.set_cons_zero, List.set_cons_succ])
          refine wpAnyH_done (by kernel_rfl) ?_ _
          go_wp2_with fail
          go_ret
          exact ⟨by unfold hasP; rw [all_no hp.out hokm.out]; rfl, below_tr hB (by first | exact hBn | exact Below.drew hBn)⟩
      · have hpl := Lib.hid (fun W => by have u := isPlace_any t (n : Int) W; rw [decide_eq_false hin] at u; exact u)
        have hokm : okM xs (t, v) = false := by
          unfold okM
          rw [decide_eq_false (show ¬ (0 ≤ (t, v).1 ∧ (t, v).1 < (xs.length : Int)) by rw [hn.out]; exact hin)]
          rfl
        replace hokm := Lib.hid hokm
        clear hin
        have mkS : ∀ W, Below w2.heap.size w2 W → (fun W => W.cell? ⟨w.heap.size, 0, none⟩ = some (.int .i64 l) ∧ W.cell? ⟨w.heap.size, 1, none⟩ = some (.int .i64 h) ∧ W.cell? ⟨w.heap.size, 2, none⟩ = some (.slice A n c) ∧ W.cell? ⟨wr.heap.size, 0, none⟩ = some (.int .i64 t) ∧ W.cell? ⟨wr.heap.size, 1, none⟩ = some (.int .i64 v)) W := fun W h => ⟨row_of (blk_keep h k0) 0, row_of (blk_keep h k0) 1, row_of (blk_keep h k0) 2, row_of (blk_keep h k1) 0, row_of (blk_keep h k1) 1⟩
        dsimp only at mkS
        have hBn := Below.refl w2.heap.size w2
        have s0 := k0
        clear k0 k1
        refine wp_region_held_drew (S := fun W => W.cell? ⟨w.heap.size, 0, none⟩ = some (.int .i64 l) ∧ W.cell? ⟨w.heap.size, 1, none⟩ = some (.int .i64 h) ∧ W.cell? ⟨w.heap.size, 2, none⟩ = some (.slice A n c) ∧ W.cell? ⟨wr.heap.size, 0, none⟩ = some (.int .i64 t) ∧ W.cell? ⟨wr.heap.size, 1, none⟩ = some (.int .i64 v)) (by kernel_rfl) ?_ (fun hHeld => ?_)
        · first | (with_reducible exact mkS _ hBn) | (with_reducible exact mkS _ (Below.drew hBn))
        refine take_at 0 (some 13) (v := ?v3_0) rfl rfl (by kernel_rfl) (by kernel_rfl) (by kernel_rfl) (fun _ _ _ h => h) (Or.inl ⟨by rfl, ?hy3_0⟩) (by assumption) ?rest3_0
        case hy3_0 => (intro w hSw; (try dsimp only at hSw); go_simp; (try with_reducible rfl))
        (try simp only [Act.put, List.setIfInBounds_toArray, List.set_cons_zero, List.set_cons_succ])
        refine take_at 1 (some 14) (v := ?v3_1) rfl rfl (by kernel_rfl) (by kernel_rfl) (by kernel_rfl) (fun _ _ _ h => h) (Or.inl ⟨by rfl, ?hy3_1⟩) (by assumption) ?rest3_1
        case hy3_1 => (intro w hSw; (try dsimp only at hSw); go_simp; (try with_reducible rfl))
        (try simp only [Act.put, List.setIfInBounds_toArray, List.set_cons_zero, List.set_cons_succ])
        refine take_at 2 (some 15) (v := ?v3_2) rfl rfl (by kernel_rfl) (by kernel_rfl) (by kernel_rfl) (fun _ _ _ h => h) (Or.inl ⟨by rfl, ?hy3_2⟩) (by assumption) ?rest3_2
        case hy3_2 => (intro w hSw; (try dsimp only at hSw); go_simp; (try with_reducible rfl))
        (try simp only [Act.put, List.setIfInBounds_toArray, List.set_cons_zero, List.set_cons_succ])
        refine take_at 3 (some 16) (v := ?v3_3) rfl rfl (by kernel_rfl) (by kernel_rfl) (by kernel_rfl) (fun _ _ _ h => h) (Or.inl ⟨by rfl, ?hy3_3⟩) (by assumption) ?rest3_3
        case hy3_3 => (intro w hSw; (try dsimp only at hSw); go_simp; (try with_reducible rfl))
        (try simp only [Act.put, List.setIfInBounds_toArray, List.set_cons_zero, List.set_cons_succ])
        refine take_at 4 (some 17) (v := ?v3_4) rfl rfl (by kernel_rfl) (by kernel_rfl) (by kernel_rfl) (fun _ _ _ h => h) (Or.inl ⟨by rfl, ?hy3_4⟩) (by assumption) ?rest3_4
        case hy3_4 => (intro w hSw; (try dsimp only at hSw); go_simp; (try with_reducible rfl))
        (try simp only [Act.put, List.setIfInBounds_toArray, List.set_cons_zero, List.set_cons_succ])
        refine only_at 5 (some 18) _ rfl rfl rfl (by kernel_rfl) (by rfl) (fun K hK => ?_)
        go_simp
        refine (hpl.out _).mono ?_
        rintro e wn ⟨rfl, rfl⟩
        refine hK.out _ _ ?_ (fun hHeld => ?_)
        · first | (with_reducible exact mkS _ hBn) | (with_reducible exact mkS _ (Below.drew hBn))
        clear hK K
        (try simp only [Act.put, List.setIfInBounds_toArray, List.set_cons_zero, List.set_cons_succ])
        refine take_at 6 (some 19) (v := ?v3_6) rfl rfl (by kernel_rfl) (by kernel_rfl) (by kernel_rfl) (fun _ _ _ h => h) (Or.inl ⟨by rfl, ?hy3_6⟩) (by assumption) ?rest3_6
        case hy3_6 => (intro w hSw; (try dsimp only at hSw); go_simp; (try with_reducible rfl))
        (try simp only [Act.put, List.setIfInBounds_toArray, List.set_cons_zero, List.set_cons_succ])
        refine take_at 7 (some 20) (v := ?v3_7) rfl rfl (by kernel_rfl) (by kernel_rfl) (by kernel_rfl) (fun _ _ _ h => h) (Or.inl ⟨by rfl, ?hy3_7⟩) (by assumption) ?rest3_7
        case hy3_7 => (intro w hSw; (try dsimp only at hSw); go_simp; (try with_reducible rfl))
        (try simp only [Act.put, List.setIfInBounds_toArray, List.set_cons_zero, List.set_cons_succ])
        refine take_at 8 (some 21) (v := undef) rfl rfl (by kernel_rfl) (by kernel_rfl) (by kernel_rfl) (fun _ _ _ h => h) (Or.inr ⟨by rfl, rfl⟩) (by assumption) ?_
        (try simp only [Act.put, List.setIfInBounds_toArray, List.set_cons_zero, List.set_cons_succ])
        refine take_at 9 (some 22) (v := undef) rfl rfl (by kernel_rfl) (by kernel_rfl) (by kernel_rfl) (fun _ _ _ h => h) (Or.inr ⟨by rfl, rfl⟩) (by assumption) ?_
        (try simp only [Act.put, List.setIfInBounds_toArray, List.set_cons_zero, List.set_cons_succ])
        refine take_at 10 (some 23) (v := undef) rfl rfl (by kernel_rfl) (by kernel_rfl) (by kernel_rfl) (fun _ _ _ h => h) (Or.inr ⟨by rfl, rfl⟩) (by assumption) ?_
        (try simp only [Act.put, List.setIfInBounds_toArray, List.set_cons_zero, List.set_cons_succ])
        refine take_at 11 (some 24) (v := undef) rfl rfl (by kernel_rfl) (by kernel_rfl) (by kernel_rfl) (fun _ _ _ h => h) (Or.inr ⟨by rfl, rfl⟩) (by assumption) ?_
        (try simp only [Act.put, List.setIfInBounds_toArray, List.set_cons_zero, List.set_cons_succ])
        refine take_at 12 (some 25) (v := undef) rfl rfl (by kernel_rfl) (by kernel_rfl) (by kernel_rfl) (fun _ _ _ h => h) (Or.inr ⟨by rfl, rfl⟩) (by assumption) ?_
        (try simp only [Act.put, List.setIfInBounds_toArray, List.set_cons_zero, List.set_cons_succ])
        refine take_at 13 (some 26) (v := undef) rfl rfl (by kernel_rfl) (by kernel_rfl) (by kernel_rfl) (fun _ _ _ h => h) (Or.inr ⟨by rfl, rfl⟩) (by assumption) ?_
        (try simp only [Act.put, List.setIfInBounds_toArray, List.set_cons_zero, List.set_cons_succ])
        refine take_at 14 (some 27) (v := undef) rfl rfl (by kernel_rfl) (by kernel_rfl) (by kernel_rfl) (fun _ _ _ h => h) (Or.inr ⟨by rfl, rfl⟩) (by assumption) ?_
        (try simp only [Act.put, List.setIfInBounds_toArray, List.set_cons_zero, List.set_cons_succ])
        refine take_at 15 (some 28) (v := undef) rfl rfl (by kernel_rfl) (by kernel_rfl) (by kernel_rfl) (fun _ _ _ h => h) (Or.inr ⟨by rfl, rfl⟩) (by assumption) ?_
        (try simp only [Act.put, List.setIfInBounds_toArray, List.set_cons_zero, List.set_cons_succ])
        refine take_at 16 (some 29) (v := undef) rfl rfl (by kernel_rfl) (by kernel_rfl) (by kernel_rfl) (fun _ _ _ h => h) (Or.inr ⟨by rfl, rfl⟩) (by assumption) ?_
        (try simp only [Act.put, List.setIfInBounds_toArray, List.set_cons_zero, List.set_cons_succ])
        refine take_at 17 (some 30) (v := undef) rfl rfl (by kernel_rfl) (by kernel_rfl) (by kernel_rfl) (fun _ _ _ h => h) (Or.inr ⟨by rfl, rfl⟩) (by assumption) ?_
        (try simp only [Act.put, List.setIfInBounds_toArray, List.set_cons_zero, List.set_cons_succ])
        refine take_at 18 (some 31) (v := ?v3_18) rfl rfl (by kernel_rfl) (by kernel_rfl) (by kernel_rfl) (fun _ _ _ h => h) (Or.inl ⟨by rfl, ?hy3_18⟩) (by assumption) ?rest3_18
        case hy3_18 => (intro w hSw; (try dsimp only at hSw); go_simp; (try with_reducible rfl))
        (try simp only [Act.put, List.setIfInBounds_toArray, List.set_cons_zero, List.set_cons_succ])
        refine wpAnyH_done (by kernel_rfl) ?_ _
        go_wp2_with fail
        go_ret
        exact ⟨by unfold hasP; rw [all_no hp.out hokm.out]; rfl, below_tr hB (by first | exact hBn | exact Below.drew hBn)⟩
    · have hlt2 : ¬ (k : Int) < (m : Int) := by omega
      obtain rfl : k = m := by omega
      have r0 := row_of k0
      have z0 := blk_lt k0
      go_wp2_with fail
      refine (hlast.out _).mono ?_
      rintro e w3 ⟨rfl, hb⟩
      go_wp2_with fail
      go_ret
      refine ⟨?_, hB.trans (hb.mono hB.size)⟩
      unfold hasP
      rw [all_yes hm.out hok.out, hm.out, Bool.true_and]
      simp
end Go.Proofs.Ytgepaajhccadhaa
