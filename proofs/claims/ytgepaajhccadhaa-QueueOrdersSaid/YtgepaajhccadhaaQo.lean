/-
  The law's own example of sends.
-/
import Derived.Test.YtgepaajhccadhaaQn
namespace Go.Proofs.Ytgepaajhccadhaa
open Go.RowKit
def SendCut (W0 : World) (e : Value) (wx : World) : Prop := ∃ n g cap, e = .pointer (some ⟨n, 0, none⟩) ∧ wx.heap[n]? = some (.cells #[.int .i64 0, .int .i64 1, .slice (some ⟨g, 0, none⟩) 1 cap] 28 (0, 0)) ∧ ElemAt wx W0.heap.size 25 g cap [(3, 4)] ∧ Below W0.heap.size W0 wx
theorem prow_one {W : World} {x : Obj} {T : TypeId} {t v : Int} (hx : x = .cells #[.int .i64 t, .int .i64 v] T (0, 0)) : PRow (W.alloc x) (some ⟨W.heap.size, 0, none⟩) [(t, v)] := by
  subst hx
  have k := row_of (blkA W (.cells #[.int .i64 t, .int .i64 v] T (0, 0)) rfl)
  refine .inr ⟨⟨W.heap.size, 0, none⟩, rfl, by simp only [World.size_alloc]; omega, fun i p0 p1 h => ?_⟩
  match i, h with
  | 0, h => cases h; exact ⟨k 0, k 1⟩
  | i + 1, h => simp at h
theorem prow_nil (w : World) (A : Option Addr) : PRow w A [] := .inl rfl
theorem set3 {W : World} {n : Nat} {t : TypeId} {a b c u v x : Value} (h : W.heap[n]? = some (.cells #[a, b, c] t (0, 0))) : (((W.setCell ⟨n, 0, none⟩ u).setCell ⟨n, 1, none⟩ v).setCell ⟨n, 2, none⟩ x).heap[n]? = some (.cells #[u, v, x] t (0, 0)) := (put3 h u v x rfl).1
theorem below_put3 {W0 W : World} {g : Nat} {u v x : Value} (h : Below W0.heap.size W0 W) (hg : W0.heap.size ≤ g) : Below W0.heap.size W0 (((W.setCell ⟨g, 0, none⟩ u).setCell ⟨g, 1, none⟩ v).setCell ⟨g, 2, none⟩ x) := (below_put h hg).setCell (p := ⟨g, 2, none⟩) hg x
theorem elem_put3 {W : World} {b n : Nat} {t : TypeId} {g cap : Nat} {xs : List (Int × Int)} {u v x : Value} (h : ElemAt W b t g cap xs) (hne : g ≠ n) : ElemAt (((W.setCell ⟨n, 0, none⟩ u).setCell ⟨n, 1, none⟩ v).setCell ⟨n, 2, none⟩ x) b t g cap xs := elem_same h fun _ hx => blk_set (blk_set (blk_set hx hne) hne) hne
theorem blkP3 (W : World) (g : Nat) (u v x : Value) (ob : Obj) : ((((W.setCell ⟨g, 0, none⟩ u).setCell ⟨g, 1, none⟩ v).setCell ⟨g, 2, none⟩ x).alloc ob).heap[W.heap.size]? = some ob := blkA _ _ (by simp [World.setCell])
set_option maxRecDepth 100000 in
set_option maxHeartbeats 8000000 in
theorem sends_any (w : World) : Calls Try.prog 10 #[] w fun e w' => e = .returned (.bool true) ∧ Below w.heap.size w w' := by
  go_enter Try.func10, Try.ntmps10
  go_upto_region 2 with fail
  refine wp_world (fun W => W.heap[w.heap.size]? = some (.cells #[.int .i64 0, .int .i64 2, .int .i64 0, .int .i64 1, .int .i64 1, .slice none 0 0] 42 (0, 0)) ∧ Below w.heap.size w W) ⟨blkA _ _ (by first | rfl | simp only [World.size_alloc]), (Below.refl _ _).alloc (by first | exact Nat.le_refl _ | (simp only [World.size_alloc]; omega)) _⟩ ?_
  rintro w1 ⟨k0, hB⟩
  have r0 := row_of k0
  have f0 := frozen_of k0
  have z0 := blk_lt k0
  clear r0 f0 z0
  have mkS : ∀ W, Below w1.heap.size w1 W → (fun W => W.cell? ⟨w.heap.size, 0, none⟩ = some (.int .i64 0) ∧ W.cell? ⟨w.heap.size, 1, none⟩ = some (.int .i64 2) ∧ W.cell? ⟨w.heap.size, 2, none⟩ = some (.int .i64 0) ∧ W.cell? ⟨w.heap.size, 3, none⟩ = some (.int .i64 1) ∧ W.cell? ⟨w.heap.size, 4, none⟩ = some (.int .i64 1) ∧ W.cell? ⟨w.heap.size, 5, none⟩ = some (.slice none 0 0)) W := fun W h => ⟨row_of (blk_keep h k0) 0, row_of (blk_keep h k0) 1, row_of (blk_keep h k0) 2, row_of (blk_keep h k0) 3, row_of (blk_keep h k0) 4, row_of (blk_keep h k0) 5⟩
  dsimp only at mkS
  have cnone := Lib.hid (fun W => none_n 0 2 0 1 none 0 0 1 (.inl rfl) W)
  have cof := Lib.hid (fun W => by have t := of_any 3 4 W; rw [ofP_in 3 4 (by decide) (by decide) (by decide)] at t; exact t)
  have csend := Lib.hid (fun W b c base hx => send_any 0 2 0 1 0 0 0 3 4 0 1 none 0 0 b c base 1 [(1, 0)] [(3, 4)] W rfl (by decide) (by decide) hx (by decide) (by decide) (by decide))
  replace cnone := Lib.hid (fun W => by have t := cnone.out W; exact t)
  go_cut [2] from 4 to 8 (fun e6 wx => SendCut w1 e6 wx)
  case first =>
    as_aux_lemma =>
      have hBn := Below.refl w1.heap.size w1
      clear hB k0
      go_region_held3 (fun W => W.cell? ⟨w.heap.size, 0, none⟩ = some (.int .i64 0) ∧ W.cell? ⟨w.heap.size, 1, none⟩ = some (.int .i64 2) ∧ W.cell? ⟨w.heap.size, 2, none⟩ = some (.int .i64 0) ∧ W.cell? ⟨w.heap.size, 3, none⟩ = some (.int .i64 1) ∧ W.cell? ⟨w.heap.size, 4, none⟩ = some (.int .i64 1) ∧ W.cell? ⟨w.heap.size, 5, none⟩ = some (.slice none 0 0))
        (first | (with_reducible exact mkS _ hBn) | (with_reducible exact mkS _ (below_al hBn _)) | (with_reducible exact mkS _ (below_put3 hBn zx)) | (with_reducible exact mkS _ (Below.drew hBn)) | (with_reducible exact mkS _ (Below.drew (below_al hBn _))))
        (first
          | (go_at_call 12; refine (cnone.out _).mono ?_; rintro e wn ⟨g0, cap0, rfl, hE, hbS⟩; (try (with_reducible replace hbS := below_undrew hbS)); (with_reducible first
              | (have kx := blkT1 hbS; have zx := hBn.size; replace hBn := below_tr (below_al hBn _) hbS)
              | (replace kx := blk_keep hbS kx; replace hBn := below_tr hBn hbS)
              | (replace hBn := below_tr hBn hbS)); (try (have rx := row_of kx; have fx := frozen_of kx; have lx := blk_lt kx)))
          | (go_at_call 33; refine (cof.out _).mono ?_; rintro e wn ⟨rfl, hbS⟩; (try (with_reducible replace hbS := below_undrew hbS)); (try (first | (replace hE := elem_keep hE hbS) | (replace hE := elem_keep (elem_up hE _) hbS))); (with_reducible first
              | (have kx := blkT1 hbS; have zx := hBn.size; replace hBn := below_tr (below_al hBn _) hbS)
              | (replace kx := blk_keep hbS kx; replace hBn := below_tr hBn hbS)
              | (replace hBn := below_tr hBn hbS)); (try (have rx := row_of kx; have fx := frozen_of kx; have lx := blk_lt kx)))
          | (go_at_call 13; (first | refine (csend.out _ _ _ _ hE).mono ?_ | refine (csend.out _ _ _ _ (elem_up hE _)).mono ?_); rintro e wn ⟨g1, cap1, rfl, hE1, hbS⟩; (try (with_reducible replace hbS := below_undrew hbS)); have qg := (elem_ge hE1).1; (try simp only [World.size_alloc] at qg); (try have lx0 := blk_lt kx); replace hE1 := elem_base (b := w1.heap.size) hE1 (by first | exact hBn.size | exact Nat.le_succ_of_le hBn.size | (simp only [World.size_alloc]; have := hBn.size; omega)); (with_reducible first
              | (have kx := blkT1 hbS; have zx := hBn.size; replace hBn := below_tr (below_al hBn _) hbS)
              | (replace kx := blk_keep hbS kx; replace hBn := below_tr hBn hbS)
              | (replace hBn := below_tr hBn hbS)); (try (have rx := row_of kx; have fx := frozen_of kx; have lx := blk_lt kx))))
      all_goals
        go_wp2_with fail
        go_meet
        have q1 := elem_ge hE1
        refine ⟨_, g1, cap1, rfl, ?_, ?_, ?_⟩
        · first | exact blkA _ _ rfl | exact set3 kx
        · first | exact hE1 | exact elem_up hE1 _ | exact elem_put3 hE1 (by omega)
        · first | exact below_al hBn _ | exact below_put3 hBn zx
  case rest =>
    as_aux_lemma =>
      obtain ⟨n2, g2, cap2, rfl, k1, hE, hb⟩ := hcut
      clear k0 mkS cnone cof csend
      replace hB := hB.trans (hb.mono hB.size)
      clear hb
      have hX := prow_elem hE
      clear hE
      go_upto_region 3 with fail
      refine wp_world (fun W => W.heap[n2]? = some (.cells #[.int .i64 0, .int .i64 1, .slice (some ⟨g2, 0, none⟩) 1 cap2] 28 (0, 0)) ∧ PRow W (some ⟨g2, 0, none⟩) [(3, 4)] ∧ Below w.heap.size w W) ⟨k1, hX, hB⟩ ?_
      clear k1 hX hB
      rintro w3 ⟨k1, hX, hB⟩
      have mkS : ∀ W, Below w3.heap.size w3 W → (fun W => W.cell? ⟨n2, 0, none⟩ = some (.int .i64 0) ∧ W.cell? ⟨n2, 1, none⟩ = some (.int .i64 1) ∧ W.cell? ⟨n2, 2, none⟩ = some (.slice (some ⟨g2, 0, none⟩) 1 cap2)) W := fun W h => ⟨row_of (blk_keep h k1) 0, row_of (blk_keep h k1) 1, row_of (blk_keep h k1) 2⟩
      dsimp only at mkS
      have cof := Lib.hid (fun W => by have t := of_any 0 1 W; rw [ofP_in 0 1 (by decide) (by decide) (by decide)] at t; exact t)
      have chas1 := Lib.hid (fun W a cq (hX : PRow W (some ⟨g2, 0, none⟩) [(3, 4)]) (hq : PRow W (some a) [(0, 4)]) => by have t := has_row 0 1 (some ⟨g2, 0, none⟩) (some a) 1 cap2 1 cq [(3, 4)] [(0, 4)] W rfl rfl (by decide) (by decide) hX hq; rw [show hasP 0 1 [(3, 4)] [(0, 4)] = true by decide] at t; exact t)
      have chas2 := Lib.hid (fun W (hX : PRow W (some ⟨g2, 0, none⟩) [(3, 4)]) => by have t := has_row 0 1 (some ⟨g2, 0, none⟩) none 1 cap2 0 0 [(3, 4)] [] W rfl rfl (by decide) (by decide) hX (prow_nil _ _); rw [show hasP 0 1 [(3, 4)] [] = true by decide] at t; exact t)
      have chas3 := Lib.hid (fun W a cq (hX : PRow W (some ⟨g2, 0, none⟩) [(3, 4)]) (hq : PRow W (some a) [(0, 5)]) => by have t := has_row 0 1 (some ⟨g2, 0, none⟩) (some a) 1 cap2 1 cq [(3, 4)] [(0, 5)] W rfl rfl (by decide) (by decide) hX hq; rw [show hasP 0 1 [(3, 4)] [(0, 5)] = false by decide] at t; exact t)
      have ctags := Lib.hid (fun W (hX : PRow W (some ⟨g2, 0, none⟩) [(3, 4)]) => tags_row 0 1 (some ⟨g2, 0, none⟩) 1 cap2 [(3, 4)] W rfl (by decide) hX)
      replace hX := Lib.hid hX
      have hBn := Below.refl w3.heap.size w3
      clear k1
      refine wp_region_held_drew (S := fun W => W.cell? ⟨n2, 0, none⟩ = some (.int .i64 0) ∧ W.cell? ⟨n2, 1, none⟩ = some (.int .i64 1) ∧ W.cell? ⟨n2, 2, none⟩ = some (.slice (some ⟨g2, 0, none⟩) 1 cap2)) (by kernel_rfl) ?_ (fun hHeld => ?_)
      · first | (with_reducible exact mkS _ hBn) | (with_reducible exact mkS _ (Below.drew hBn)) | (with_reducible exact mkS _ (below_al hBn _)) | (with_reducible exact mkS _ (Below.drew (below_al hBn _)))
      refine take_at 0 (some 9) (v := ?v1_0) rfl rfl (by kernel_rfl) (by kernel_rfl) (by kernel_rfl) (fun _ _ _ h => h) (Or.inl ⟨by rfl, ?hy1_0⟩) (by assumption) ?rest1_0
      case hy1_0 => (intro w hSw; (try dsimp only at hSw); go_simp; (try with_reducible rfl))
      (try simp only [Act.put, List.setIfInBounds_toArray, List.set_cons_zero, List.set_cons_succ])
      refine take_at 1 (some 10) (v := ?v1_1) rfl rfl (by kernel_rfl) (by kernel_rfl) (by kernel_rfl) (fun _ _ _ h => h) (Or.inl ⟨by rfl, ?hy1_1⟩) (by assumption) ?rest1_1
      case hy1_1 => (intro w hSw; (try dsimp only at hSw); go_simp; (try with_reducible rfl))
      (try simp only [Act.put, List.setIfInBounds_toArray, List.set_cons_zero, List.set_cons_succ])
      refine only_at 2 (some 11) _ rfl rfl rfl (by kernel_rfl) (by rfl) (fun K hK => ?_)
      go_simp
      refine (cof.out _).mono ?_
      rintro e wn ⟨rfl, hbS⟩
      (try (with_reducible replace hbS := below_undrew hbS))
      replace hBn := below_tr hBn hbS
      refine hK.out _ _ ?_ (fun hHeld => ?_)
      · first | (with_reducible exact mkS _ hBn) | (with_reducible exact mkS _ (Below.drew hBn)) | (with_reducible exact mkS _ (below_al hBn _)) | (with_reducible exact mkS _ (Below.drew (below_al hBn _)))
      clear hK K
      refine take_at 3 (some 12) (v := ?v1_3) rfl rfl (by kernel_rfl) (by kernel_rfl) (by kernel_rfl) (fun _ _ _ h => h) (Or.inl ⟨by rfl, ?hy1_3⟩) (by assumption) ?rest1_3
      case hy1_3 => (intro w hSw; (try dsimp only at hSw); go_simp; (try with_reducible rfl))
      (try simp only [Act.put, List.setIfInBounds_toArray, List.set_cons_zero, List.set_cons_succ])
      refine take_at 4 (some 13) (v := ?v1_4) rfl rfl (by kernel_rfl) (by kernel_rfl) (by kernel_rfl) (fun _ _ _ h => h) (Or.inl ⟨by rfl, ?hy1_4⟩) (by assumption) ?rest1_4
      case hy1_4 => (intro w hSw; (try dsimp only at hSw); go_simp; (try with_reducible rfl))
      (try simp only [Act.put, List.setIfInBounds_toArray, List.set_cons_zero, List.set_cons_succ])
      refine take_at 5 (some 14) (v := ?v1_5) rfl rfl (by kernel_rfl) (by kernel_rfl) (by kernel_rfl) (fun _ _ _ h => h) (Or.inl ⟨by rfl, ?hy1_5⟩) (by assumption) ?rest1_5
      case hy1_5 => (intro w hSw; (try dsimp only at hSw); go_simp; (try with_reducible rfl))
      (try simp only [Act.put, List.setIfInBounds_toArray, List.set_cons_zero, List.set_cons_succ])
      refine take_at 6 (some 15) (v := ?v1_6) rfl rfl (by kernel_rfl) (by kernel_rfl) (by kernel_rfl) (fun _ _ _ h => h) (Or.inl ⟨by rfl, ?hy1_6⟩) (by assumption) ?rest1_6
      case hy1_6 => (intro w hSw; (try dsimp only at hSw); go_simp; (try with_reducible rfl))
      (try simp only [Act.put, List.setIfInBounds_toArray, List.set_cons_zero, List.set_cons_succ])
      refine only_at 7 (some 16) _ rfl rfl rfl (by kernel_rfl) (by rfl) (fun K hK => ?_)
      go_simp
      refine hK.out _ _ ?_ (fun hHeld => ?_)
      · first | (with_reducible exact mkS _ hBn) | (with_reducible exact mkS _ (Below.drew hBn)) | (with_reducible exact mkS _ (below_al hBn _)) | (with_reducible exact mkS _ (Below.drew (below_al hBn _)))
      clear hK K
      (try simp only [Act.put, List.setIfInBounds_toArray, List.set_cons_zero, List.set_cons_succ])
      refine only_at 8 (some 17) _ rfl rfl rfl (by kernel_rfl) (by rfl) (fun K hK => ?_)
      go_simp
      refine (chas1.out _ _ _ (prow_keep hX.out (below_al hBn _)) (prow_one rfl)).mono ?_
      rintro e wn ⟨rfl, hbS⟩
      (try (with_reducible replace hbS := below_undrew hbS))
      replace hBn := below_tr (below_al hBn _) hbS
      refine hK.out _ _ ?_ (fun hHeld => ?_)
      · first | (with_reducible exact mkS _ hBn) | (with_reducible exact mkS _ (Below.drew hBn)) | (with_reducible exact mkS _ (below_al hBn _)) | (with_reducible exact mkS _ (Below.drew (below_al hBn _)))
      clear hK K
      (try simp only [Act.put, List.setIfInBounds_toArray, List.set_cons_zero, List.set_cons_succ])
      refine take_at 9 (some 18) (v := ?v1_9) rfl rfl (by kernel_rfl) (by kernel_rfl) (by kernel_rfl) (fun _ _ _ h => h) (Or.inl ⟨by rfl, ?hy1_9⟩) (by assumption) ?rest1_9
      case hy1_9 => (intro w hSw; (try dsimp only at hSw); go_simp; (try with_reducible rfl))
      (try simp only [Act.put, List.setIfInBounds_toArray, List.set_cons_zero, List.set_cons_succ])
      refine take_at 10 (some 19) (v := ?v1_10) rfl rfl (by kernel_rfl) (by kernel_rfl) (by kernel_rfl) (fun _ _ _ h => h) (Or.inl ⟨by rfl, ?hy1_10⟩) (by assumption) ?rest1_10
      case hy1_10 => (intro w hSw; (try dsimp only at hSw); go_simp; (try with_reducible rfl))
      (try simp only [Act.put, List.setIfInBounds_toArray, List.set_cons_zero, List.set_cons_succ])
      refine take_at 11 (some 20) (v := ?v1_11) rfl rfl (by kernel_rfl) (by kernel_rfl) (by kernel_rfl) (fun _ _ _ h => h) (Or.inl ⟨by rfl, ?hy1_11⟩) (by assumption) ?rest1_11
      case hy1_11 => (intro w hSw; (try dsimp only at hSw); go_simp; (try with_reducible rfl))
      (try simp only [Act.put, List.setIfInBounds_toArray, List.set_cons_zero, List.set_cons_succ])
      refine only_at 12 (some 21) _ rfl rfl rfl (by kernel_rfl) (by rfl) (fun K hK => ?_)
      go_simp
      refine (chas2.out _ (prow_keep hX.out hBn)).mono ?_
      rintro e wn ⟨rfl, hbS⟩
      (try (with_reducible replace hbS := below_undrew hbS))
      replace hBn := below_tr hBn hbS
      refine hK.out _ _ ?_ (fun hHeld => ?_)
      · first | (with_reducible exact mkS _ hBn) | (with_reducible exact mkS _ (Below.drew hBn)) | (with_reducible exact mkS _ (below_al hBn _)) | (with_reducible exact mkS _ (Below.drew (below_al hBn _)))
      clear hK K
      (try simp only [Act.put, List.setIfInBounds_toArray, List.set_cons_zero, List.set_cons_succ])
      refine take_at 13 (some 22) (v := ?v1_13) rfl rfl (by kernel_rfl) (by kernel_rfl) (by kernel_rfl) (fun _ _ _ h => h) (Or.inl ⟨by rfl, ?hy1_13⟩) (by assumption) ?rest1_13
      case hy1_13 => (intro w hSw; (try dsimp only at hSw); go_simp; (try with_reducible rfl))
      (try simp only [Act.put, List.setIfInBounds_toArray, List.set_cons_zero, List.set_cons_succ])
      refine take_at 14 (some 23) (v := ?v1_14) rfl rfl (by kernel_rfl) (by kernel_rfl) (by kernel_rfl) (fun _ _ _ h => h) (Or.inl ⟨by rfl, ?hy1_14⟩) (by assumption) ?rest1_14
      case hy1_14 => (intro w hSw; (try dsimp only at hSw); go_simp; (try with_reducible rfl))
      (try simp only [Act.put, List.setIfInBounds_toArray, List.set_cons_zero, List.set_cons_succ])
      refine take_at 15 (some 24) (v := ?v1_15) rfl rfl (by kernel_rfl) (by kernel_rfl) (by kernel_rfl) (fun _ _ _ h => h) (Or.inl ⟨by rfl, ?hy1_15⟩) (by assumption) ?rest1_15
      case hy1_15 => (intro w hSw; (try dsimp only at hSw); go_simp; (try with_reducible rfl))
      (try simp only [Act.put, List.setIfInBounds_toArray, List.set_cons_zero, List.set_cons_succ])
      refine take_at 16 (some 25) (v := ?v1_16) rfl rfl (by kernel_rfl) (by kernel_rfl) (by kernel_rfl) (fun _ _ _ h => h) (Or.inl ⟨by rfl, ?hy1_16⟩) (by assumption) ?rest1_16
      case hy1_16 => (intro w hSw; (try dsimp only at hSw); go_simp; (try with_reducible rfl))
      (try simp only [Act.put, List.setIfInBounds_toArray, List.set_cons_zero, List.set_cons_succ])
      refine only_at 17 (some 26) _ rfl rfl rfl (by kernel_rfl) (by rfl) (fun K hK => ?_)
      go_simp
      refine hK.out _ _ ?_ (fun hHeld => ?_)
      · first | (with_reducible exact mkS _ hBn) | (with_reducible exact mkS _ (Below.drew hBn)) | (with_reducible exact mkS _ (below_al hBn _)) | (with_reducible exact mkS _ (Below.drew (below_al hBn _)))
      clear hK K
      (try simp only [Act.put, List.setIfInBounds_toArray, List.set_cons_zero, List.set_cons_succ])
      refine only_at 18 (some 27) _ rfl rfl rfl (by kernel_rfl) (by rfl) (fun K hK => ?_)
      go_simp
      refine (chas3.out _ _ _ (prow_keep hX.out (below_al hBn _)) (prow_one rfl)).mono ?_
      rintro e wn ⟨rfl, hbS⟩
      (try (with_reducible replace hbS := below_undrew hbS))
      replace hBn := below_tr (below_al hBn _) hbS
      refine hK.out _ _ ?_ (fun hHeld => ?_)
      · first | (with_reducible exact mkS _ hBn) | (with_reducible exact mkS _ (Below.drew hBn)) | (with_reducible exact mkS _ (below_al hBn _)) | (with_reducible exact mkS _ (Below.drew (below_al hBn _)))
      clear hK K
      (try simp only [Act.put, List.setIfInBounds_toArray, List.set_cons_zero, List.set_cons_succ])
      refine take_at 19 (some 28) (v := ?v1_19) rfl rfl (by kernel_rfl) (by kernel_rfl) (by kernel_rfl) (fun _ _ _ h => h) (Or.inl ⟨by rfl, ?hy1_19⟩) (by assumption) ?rest1_19
      case hy1_19 => (intro w hSw; (try dsimp only at hSw); go_simp; (try with_reducible rfl))
      (try simp only [Act.put, List.setIfInBounds_toArray, List.set_cons_zero, List.set_cons_succ])
      refine take_at 20 (some 29) (v := ?v1_20) rfl rfl (by kernel_rfl) (by kernel_rfl) (by kernel_rfl) (fun _ _ _ h => h) (Or.inl ⟨by rfl, ?hy1_20⟩) (by assumption) ?rest1_20
      case hy1_20 => (intro w hSw; (try dsimp only at hSw); go_simp; (try with_reducible rfl))
      (try simp only [Act.put, List.setIfInBounds_toArray, List.set_cons_zero, List.set_cons_succ])
      refine take_at 21 (some 30) (v := ?v1_21) rfl rfl (by kernel_rfl) (by kernel_rfl) (by kernel_rfl) (fun _ _ _ h => h) (Or.inl ⟨by rfl, ?hy1_21⟩) (by assumption) ?rest1_21
      case hy1_21 => (intro w hSw; (try dsimp only at hSw); go_simp; (try with_reducible rfl))
      (try simp only [Act.put, List.setIfInBounds_toArray, List.set_cons_zero, List.set_cons_succ])
      refine take_at 22 (some 31) (v := ?v1_22) rfl rfl (by kernel_rfl) (by kernel_rfl) (by kernel_rfl) (fun _ _ _ h => h) (Or.inl ⟨by rfl, ?hy1_22⟩) (by assumption) ?rest1_22
      case hy1_22 => (intro w hSw; (try dsimp only at hSw); go_simp; (try with_reducible rfl))
      (try simp only [Act.put, List.setIfInBounds_toArray, List.set_cons_zero, List.set_cons_succ])
      refine only_at 23 (some 32) _ rfl rfl rfl (by kernel_rfl) (by rfl) (fun K hK => ?_)
      go_simp
      refine (ctags.out _ (prow_keep hX.out hBn)).mono ?_
      rintro e wn ⟨v, m, hm, rfl, hv, hO, hbS⟩
      obtain rfl : 1 = m := hm
      clear hO
      obtain ⟨_, gt, ct, rfl⟩ : 0 < 1 ∧ ∃ g cap, v = .slice (some ⟨g, 0, none⟩) 1 cap := (by rcases hv with h | h; exact absurd h.1 (by decide); exact h)
      clear hv
      (try (with_reducible replace hbS := below_undrew hbS))
      replace hBn := below_tr hBn hbS
      refine hK.out _ _ ?_ (fun hHeld => ?_)
      · first | (with_reducible exact mkS _ hBn) | (with_reducible exact mkS _ (Below.drew hBn)) | (with_reducible exact mkS _ (below_al hBn _)) | (with_reducible exact mkS _ (Below.drew (below_al hBn _)))
      clear hK K
      (try simp only [Act.put, List.setIfInBounds_toArray, List.set_cons_zero, List.set_cons_succ])
      refine take_at 24 (some 33) (v := ?v1_24) rfl rfl (by kernel_rfl) (by kernel_rfl) (by kernel_rfl) (fun _ _ _ h => h) (Or.inl ⟨by rfl, ?hy1_24⟩) (by assumption) ?rest1_24
      case hy1_24 => (intro w hSw; (try dsimp only at hSw); go_simp; (try with_reducible rfl))
      (try simp only [Act.put, List.setIfInBounds_toArray, List.set_cons_zero, List.set_cons_succ])
      refine take_at 25 (some 34) (v := ?v1_25) rfl rfl (by kernel_rfl) (by kernel_rfl) (by kernel_rfl) (fun _ _ _ h => h) (Or.inl ⟨by rfl, ?hy1_25⟩) (by assumption) ?rest1_25
      case hy1_25 => (intro w hSw; (try dsimp only at hSw); go_simp; (try with_reducible rfl))
      (try simp only [Act.put, List.setIfInBounds_toArray, List.set_cons_zero, List.set_cons_succ])
      refine take_at 26 (some 35) (v := ?v1_26) rfl rfl (by kernel_rfl) (by kernel_rfl) (by kernel_rfl) (fun _ _ _ h => h) (Or.inl ⟨by rfl, ?hy1_26⟩) (by assumption) ?rest1_26
      case hy1_26 => (intro w hSw; (try dsimp only at hSw); go_simp; (try with_reducible rfl))
      (try simp only [Act.put, List.setIfInBounds_toArray, List.set_cons_zero, List.set_cons_succ])
      refine take_at 27 (some 0) (v := ?v1_27) rfl rfl (by kernel_rfl) (by kernel_rfl) (by kernel_rfl) (fun _ _ _ h => h) (Or.inl ⟨by rfl, ?hy1_27⟩) (by assumption) ?rest1_27
      case hy1_27 => (intro w hSw; (try dsimp only at hSw); go_simp; (try with_reducible rfl))
      (try simp only [Act.put, List.setIfInBounds_toArray, List.set_cons_zero])
      refine wpAnyH_done (by kernel_rfl) ?_ _
      go_wp2_with fail
      go_ret
      exact ⟨rfl, below_tr hB (by first | exact hBn | exact Below.drew hBn)⟩
end Go.Proofs.Ytgepaajhccadhaa
