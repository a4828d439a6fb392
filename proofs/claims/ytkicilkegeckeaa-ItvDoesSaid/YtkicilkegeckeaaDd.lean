/-
  ItvDoes' walk.
-/
import Derived.Test.YtkicilkegeckeaaDo
import Derived.Test.YtkicilkegeckeaaOa
import Derived.Test.YtkicilkegeckeaaIh
import Derived.WalkLawsBesides
namespace Go.Proofs.Ytkicilkegeckeaa
open Go.RowKit
/-- A new block holds an Itv that has three numbers. -/
def HullCut (W0 : World) (x0 x1 x2 : Int) (e : Value) (wx : World) : Prop := ∃ (n : Nat) (l h : Int), e = .pointer (some ⟨n, 0, none⟩) ∧ W0.heap.size ≤ n ∧ wx.heap[n]? = some (.cells #[.int .i64 l, .int .i64 h] 26 (0, 0)) ∧ (l ≤ x0 ∧ x0 ≤ h ∧ l ≤ x1 ∧ x1 ≤ h ∧ l ≤ x2 ∧ x2 ≤ h ∧ -2147483648 ≤ l ∧ h ≤ 2147483647) ∧ Below W0.heap.size W0 wx
theorem nine (x0 x1 x2 : Int) (P : Int → Prop) (h0 : P x0) (h1 : P x1) (h2 : P x2) (q : Nat) (hq : q < 3) : ∃ X, (#[Value.int .i32 x0, .int .i32 x1, .int .i32 x2] : Array Value)[q]? = some (.int .i32 X) ∧ P X := by
  match q, hq with
  | 0, _ => exact ⟨x0, rfl, h0⟩
  | 1, _ => exact ⟨x1, rfl, h1⟩
  | 2, _ => exact ⟨x2, rfl, h2⟩
def DsRel (w : World) (n3 n4 n5 : Nat) (x0 x1 x2 y0 y1 y2 m g p0 p1 : Int) (ov dz : Bool) (vi : Value) (wr : World) : Prop := ∃ k : Nat, k ≤ 9 ∧ vi = .int .i64 k ∧ wr.heap[w.heap.size]? = some (.cells #[.int .i32 x0, .int .i32 x1, .int .i32 x2] 36 (0, 0)) ∧ wr.heap[w.heap.size + 1]? = some (.cells #[.int .i32 y0, .int .i32 y1, .int .i32 y2] 36 (0, 0)) ∧ wr.heap[n3]? = some (.cells #[.int .i64 m, .int .i64 g] 26 (0, 0)) ∧ wr.heap[n4]? = some (.cells #[.int .i64 p0, .int .i64 p1] 26 (0, 0)) ∧ wr.heap[n5]? = some (.cells #[.bool ov, .bool dz] 39 (0, 0)) ∧ Below w.heap.size w wr
set_option maxRecDepth 100000 in
set_option maxHeartbeats 8000000 in
theorem does_probe (x0 x1 x2 y0 y1 y2 op K : Int) (w : World) (hx0 : -2147483648 ≤ x0) (gx0 : x0 ≤ 2147483647) (hx1 : -2147483648 ≤ x1) (gx1 : x1 ≤ 2147483647) (hx2 : -2147483648 ≤ x2) (gx2 : x2 ≤ 2147483647) (hy0 : -2147483648 ≤ y0) (gy0 : y0 ≤ 2147483647) (hy1 : -2147483648 ≤ y1) (gy1 : y1 ≤ 2147483647) (hy2 : -2147483648 ≤ y2) (gy2 : y2 ≤ 2147483647) (hk : wrap64 (4 + wrap64 ((IntKind.u64.wrap op).tmod 5)) = K) (k4 : 4 ≤ K) (k8 : K ≤ 8) :
    Calls Try.prog 4 #[.agg #[.int .i32 x0, .int .i32 x1, .int .i32 x2], .agg #[.int .i32 y0, .int .i32 y1, .int .i32 y2], .int .i64 op] w fun e w' => e = .returned (.bool true) ∧ Below w.heap.size w w' := by
  replace hk := Lib.hid hk
  have kk := Lib.hid (And.intro k4 k8)
  clear k4 k8
  go_enter Try.func4, Try.ntmps4
  go_upto_region 1 with fail
  refine wp_world (fun W => W.heap[w.heap.size]? = some (.cells #[.int .i32 x0, .int .i32 x1, .int .i32 x2] 36 (0, 0)) ∧ W.heap[w.heap.size + 1]? = some (.cells #[.int .i32 y0, .int .i32 y1, .int .i32 y2] 36 (0, 0)) ∧ Below w.heap.size w W) ⟨blkUp (blkA _ _ (by first | rfl | simp only [World.size_alloc])) _, blkA _ _ (by first | rfl | simp only [World.size_alloc]), ((Below.refl _ _).alloc (by first | exact Nat.le_refl _ | (simp only [World.size_alloc]; omega)) _).alloc (by first | exact Nat.le_refl _ | (simp only [World.size_alloc]; omega)) _⟩ ?_
  rintro w1 ⟨k0, k1, hB⟩
  have r0 := row_of k0
  have f0 := frozen_of k0
  have z0 := blk_lt k0
  have r1 := row_of k1
  have f1 := frozen_of k1
  have z1 := blk_lt k1
  clear r0 f0 z0 r1 f1 z1
  go_cut [7] from 15 to 132 (fun e7 wx => e7 = .int .i64 K ∧ w1 = wx)
  case first =>
    go_wp2_with fail
    go_meet
    exact ⟨by rw [hk.out], rfl⟩
  case rest =>
    obtain ⟨rfl, rfl⟩ := hcut
    clear hk
    go_upto_region 2 with fail
    have r0 := row_of k0
    go_cut [8] from 15 to 132 (fun e8 wx => HullCut w1 x0 x1 x2 e8 wx)
    case first =>
      as_aux_lemma =>
        go_wp2_with (go_at_call 20; refine (of_in _ _ _ (by omega) (by omega) (by omega)).mono ?_; rintro e wn ⟨rfl, hb⟩)
        all_goals
          go_meet
          exact ⟨_, _, _, rfl, hb.size, blkA _ _ rfl, ⟨by omega, by omega, by omega, by omega, by omega, by omega, by omega, by omega⟩, hb.alloc hb.size _⟩
    case rest =>
      as_aux_lemma =>
        clear r0
        obtain ⟨n2, l, h, rfl, hn2, kn, hq2, hb⟩ := hcut
        have hv0_0 := blk_lt k0
        have hv0_1 := blk_lt k1
        replace k0 := blk_keep hb k0
        replace k1 := blk_keep hb k1
        have k2 := kn
        replace hB := hB.trans (hb.mono hB.size)
        clear hb kn
        go_upto_region 3 with fail
        refine wp_world (fun W => W.heap[w.heap.size]? = some (.cells #[.int .i32 x0, .int .i32 x1, .int .i32 x2] 36 (0, 0)) ∧ W.heap[w.heap.size + 1]? = some (.cells #[.int .i32 y0, .int .i32 y1, .int .i32 y2] 36 (0, 0)) ∧ W.heap[n2]? = some (.cells #[.int .i64 l, .int .i64 h] 26 (0, 0)) ∧ Below w.heap.size w W) ⟨k0, k1, k2, hB⟩ ?_
        clear hB k0 k1 k2
        rintro w3 ⟨k0, k1, k2, hB⟩
        have r1 := row_of k1
        go_cut [9] from 15 to 132 (fun e8 wx => HullCut w3 y0 y1 y2 e8 wx)
        case first =>
          as_aux_lemma =>
            go_wp2_with (go_at_call 20; refine (of_in _ _ _ (by omega) (by omega) (by omega)).mono ?_; rintro e wn ⟨rfl, hb⟩)
            all_goals
              go_meet
              exact ⟨_, _, _, rfl, hb.size, blkA _ _ rfl, ⟨by omega, by omega, by omega, by omega, by omega, by omega, by omega, by omega⟩, hb.alloc hb.size _⟩
        case rest =>
          as_aux_lemma =>
            clear r1
            obtain ⟨n3, m, g, rfl, hn3, kn, hq3, hb⟩ := hcut
            have hv1_0 := blk_lt k0
            have hv1_1 := blk_lt k1
            have hv1_2 := blk_lt k2
            replace k0 := blk_keep hb k0
            replace k1 := blk_keep hb k1
            replace k2 := blk_keep hb k2
            have k3 := kn
            replace hB := hB.trans (hb.mono hB.size)
            clear hb kn
            go_upto_region 4 with fail
            refine wp_world (fun W => W.heap[w.heap.size]? = some (.cells #[.int .i32 x0, .int .i32 x1, .int .i32 x2] 36 (0, 0)) ∧ W.heap[w.heap.size + 1]? = some (.cells #[.int .i32 y0, .int .i32 y1, .int .i32 y2] 36 (0, 0)) ∧ W.heap[n2]? = some (.cells #[.int .i64 l, .int .i64 h] 26 (0, 0)) ∧ W.heap[n3]? = some (.cells #[.int .i64 m, .int .i64 g] 26 (0, 0)) ∧ Below w.heap.size w W) ⟨k0, k1, k2, k3, hB⟩ ?_
            clear hB k0 k1 k2 k3
            rintro w5 ⟨k0, k1, k2, k3, hB⟩
            obtain ⟨k4, k8⟩ := kk.out
            obtain ⟨p0, p1, ov, dz, cd, hd⟩ := do_ok l h m g (by omega) (by omega) (by omega) (by omega) (by omega) (by omega) K k4 k8
            replace cd := Lib.hid cd
            replace hd := Lib.hid hd
            replace hq2 := Lib.hid hq2
            replace hq3 := Lib.hid hq3
            clear k4 k8
            have r0 := row_of k0
            have f0 := frozen_of k0
            have z0 := blk_lt k0
            have r1 := row_of k1
            have f1 := frozen_of k1
            have z1 := blk_lt k1
            have r2 := row_of k2
            have f2 := frozen_of k2
            have z2 := blk_lt k2
            have r3 := row_of k3
            have f3 := frozen_of k3
            have z3 := blk_lt k3
            go_wp2_with fail
            refine (cd.out _).mono ?_
            rintro e w6 ⟨rfl, hb⟩
            replace k0 := blk_keep hb k0
            replace k1 := blk_keep hb k1
            replace k2 := blk_keep hb k2
            replace k3 := blk_keep hb k3
            replace hB := hB.trans (hb.mono hB.size)
            clear r0 f0 z0 r1 f1 z1 r2 f2 z2 r3 f3 z3
            clear hb
            have r0 := row_of k0
            have f0 := frozen_of k0
            have z0 := blk_lt k0
            have r1 := row_of k1
            have f1 := frozen_of k1
            have z1 := blk_lt k1
            have r2 := row_of k2
            have f2 := frozen_of k2
            have z2 := blk_lt k2
            have r3 := row_of k3
            have f3 := frozen_of k3
            have z3 := blk_lt k3
            go_upto_region 5 with fail
            have hz1_0 : w.heap.size < w6.heap.size := blk_lt k0
            have hz1_1 : w.heap.size + 1 < w6.heap.size := blk_lt k1
            have hz1_2 : n2 < w6.heap.size := blk_lt k2
            have hz1_3 : n3 < w6.heap.size := blk_lt k3
            refine wp_world (fun W => W.heap[w.heap.size]? = some (.cells #[.int .i32 x0, .int .i32 x1, .int .i32 x2] 36 (0, 0)) ∧ W.heap[w.heap.size + 1]? = some (.cells #[.int .i32 y0, .int .i32 y1, .int .i32 y2] 36 (0, 0)) ∧ W.heap[n2]? = some (.cells #[.int .i64 l, .int .i64 h] 26 (0, 0)) ∧ W.heap[n3]? = some (.cells #[.int .i64 m, .int .i64 g] 26 (0, 0)) ∧ W.heap[w6.heap.size]? = some (.cells #[.int .i64 p0, .int .i64 p1] 26 (0, 0)) ∧ W.heap[w6.heap.size + 1]? = some (.cells #[.bool ov, .bool dz] 39 (0, 0)) ∧ Below w.heap.size w W) ⟨blkUp (blkUp (k0) _) _, blkUp (blkUp (k1) _) _, blkUp (blkUp (k2) _) _, blkUp (blkUp (k3) _) _, blkUp (blkA _ _ (by first | rfl | simp only [World.size_alloc])) _, blkA _ _ (by first | rfl | simp only [World.size_alloc]), ((hB).alloc (by first | exact hB.size | (simp only [World.size_alloc]; omega)) _).alloc (by first | exact hB.size | (simp only [World.size_alloc]; omega)) _⟩ ?_
            clear r0 f0 z0 r1 f1 z1 r2 f2 z2 r3 f3 z3
            clear hB k0 k1 k2 k3
            rintro w7 ⟨k0, k1, k2, k3, k4, k5, hB⟩
            have r0 := row_of k0
            have f0 := frozen_of k0
            have z0 := blk_lt k0
            have r1 := row_of k1
            have f1 := frozen_of k1
            have z1 := blk_lt k1
            have r2 := row_of k2
            have f2 := frozen_of k2
            have z2 := blk_lt k2
            have r3 := row_of k3
            have f3 := frozen_of k3
            have z3 := blk_lt k3
            have r4 := row_of k4
            have f4 := frozen_of k4
            have z4 := blk_lt k4
            have r5 := row_of k5
            have f5 := frozen_of k5
            have z5 := blk_lt k5
            clear r2 f2 z2 k2
            clear r0 f0 z0 r1 f1 z1 r3 f3 z3 r4 f4 z4 r5 f5 z5
            go_wp2_with fail
            go_loopw [12] (fun vi wr => DsRel w (n3) (w6.heap.size) (w6.heap.size + 1) x0 x1 x2 y0 y1 y2 m g p0 p1 ov dz vi wr) (fun i _ => 9 - (intOf i).toNat)
            case atStart => exact ⟨0, by omega, rfl, k0, k1, k3, k4, k5, hB⟩
            case round =>
              clear hB k0 k1 k3 k4 k5
              obtain ⟨k, hk, rfl, k0, k1, k3, k4, k5, hB⟩ := hrel
              by_cases hlt : k < 9
              · have hk0 : (0 : Int) ≤ (k : Int) := by omega
                have hk9 : (k : Int) < 9 := by omega
                obtain ⟨q, hqd⟩ : ∃ q : Nat, q = k / 3 := ⟨_, rfl⟩
                obtain ⟨r, hrd⟩ : ∃ r : Nat, r = k % 3 := ⟨_, rfl⟩
                have e1 : (k : Int).tdiv 3 = (q : Int) := by rw [hqd, Int.tdiv_eq_ediv_of_nonneg (by omega)]; omega
                have e2 : (k : Int).tmod 3 = (r : Int) := by rw [hrd, Int.tmod_eq_emod_of_nonneg (by omega)]; omega
                have e3 : (k : Int) / 3 = (q : Int) := by omega
                have e4 : (k : Int) % 3 = (r : Int) := by omega
                have hq9 : q < 3 := by omega
                have hr9 : r < 3 := by omega
                clear hqd hrd
                have e5 : IntKind.i64.wrap (q : Int) = (q : Int) := wr64 _ (by omega) (by omega)
                have e6 : IntKind.i64.wrap (r : Int) = (r : Int) := wr64 _ (by omega) (by omega)
                have b1 : (0 : Int) ≤ (q : Int) := by omega
                have b2 : (q : Int) < 3 := by omega
                have b3 : (0 : Int) ≤ (r : Int) := by omega
                have b4 : (r : Int) < 3 := by omega
                have hh := hq2.out
                have hh3 := hq3.out
                obtain ⟨X, hX, hX1, hX2, hX3, hX4⟩ := nine x0 x1 x2 (fun X => l ≤ X ∧ X ≤ h ∧ -2147483648 ≤ X ∧ X ≤ 2147483647) (by omega) (by omega) (by omega) q hq9
                obtain ⟨Y, hY, hY1, hY2, hY3, hY4⟩ := nine y0 y1 y2 (fun X => m ≤ X ∧ X ≤ g ∧ -2147483648 ≤ X ∧ X ≤ 2147483647) (by omega) (by omega) (by omega) r hr9
                have hS : wr.cell? ⟨w.heap.size, q, none⟩ = some (.int .i32 X) ∧ wr.cell? ⟨w.heap.size + 1, r, none⟩ = some (.int .i32 Y) := ⟨(row_of k0 q).trans hX, (row_of k1 r).trans hY⟩
                clear hX hY hh hh3
                have e7 : IntKind.i64.wrap X = X := wr64 _ (by omega) (by omega)
                have e8 : IntKind.i64.wrap Y = Y := wr64 _ (by omega) (by omega)
                have co := Lib.hid (fun W => one_any K X Y W kk.out.1 kk.out.2 hX3 hX4 hY3 hY4)
                have ho := Lib.hid (And.intro (hd.out.has X Y hX1 hX2 hY1 hY2) (hd.out.over X Y hX1 hX2 hY1 hY2))
                have hev := Lib.hid (errP_or K X Y)
                have hone := Lib.hid (show oneP K X Y = if errP K X Y = 0 then valP K X Y else 0 from rfl)
                have hzz := Lib.hid (show 7 ≤ K → Y = 0 → dz = true from fun h7 hy => by rw [hd.out.zero]; simp; omega)
                clear hX1 hX2 hX3 hX4 hY1 hY2 hY3 hY4
                obtain ⟨n, er, hn, her⟩ : ∃ n er, oneP K X Y = n ∧ errP K X Y = er := ⟨_, _, rfl, rfl⟩
                have co2 : ∀ W, Calls Try.prog 22 #[.int .i64 K, .int .i64 X, .int .i64 Y] W fun e w' => e = .returned (.tuple #[.int .i64 n, .int .i64 er]) ∧ W = w' := fun W => by have t := co.out W; rw [hn, her] at t; exact t
                replace co2 := Lib.hid co2
                clear co
                have arms : (er = 0 ∧ p0 ≤ n ∧ n ≤ p1) ∨ (er = 2 ∧ ov = true) ∨ (er = 3 ∧ dz = true) := by
                  have v := hev.out
                  rw [her] at v
                  have ho2 := ho.out
                  rw [her] at ho2
                  have h1 := hone.out
                  rw [hn, her] at h1
                  rcases v with ⟨h, h7, hy⟩ | ⟨h, _⟩ | ⟨h, _⟩
                  · exact .inr (.inr ⟨h, hzz.out h7 hy⟩)
                  · exact .inr (.inl ⟨h, ho2.2 h⟩)
                  · rw [if_pos h] at h1
                    rw [h1]
                    exact .inl ⟨h, ho2.1 h⟩
                clear hn her ho hev hone hzz
                replace arms := Lib.hid arms
                have hS2 := hS
                obtain ⟨s0, s1⟩ := hS2
                go_upto_region 8 with fail
                go_region_held3 (fun W => W.cell? ⟨w.heap.size, q, none⟩ = some (.int .i32 X) ∧ W.cell? ⟨w.heap.size + 1, r, none⟩ = some (.int .i32 Y)) (first | assumption | exact hS | go_keep) (first | (go_at_call 22; (with_reducible refine (co2.out _).mono ?_); rintro e wn ⟨rfl, rfl⟩))
                clear e1 e2 e3 e4 e5 e6 e7 e8 b1 b2 b3 b4 hq9 hr9 s0 s1 hS
                go_upto_region 9 with fail
                refine wp_world (fun W => W.heap[w.heap.size]? = some (.cells #[.int .i32 x0, .int .i32 x1, .int .i32 x2] 36 (0, 0)) ∧ W.heap[w.heap.size + 1]? = some (.cells #[.int .i32 y0, .int .i32 y1, .int .i32 y2] 36 (0, 0)) ∧ W.heap[n3]? = some (.cells #[.int .i64 m, .int .i64 g] 26 (0, 0)) ∧ W.heap[w6.heap.size]? = some (.cells #[.int .i64 p0, .int .i64 p1] 26 (0, 0)) ∧ W.heap[w6.heap.size + 1]? = some (.cells #[.bool ov, .bool dz] 39 (0, 0)) ∧ Below w.heap.size w W) (by first | exact ⟨k0, k1, k3, k4, k5, hB⟩ | exact ⟨k0, k1, k3, k4, k5, hB.drew⟩) ?_
                clear hB k0 k1 k3 k4 k5
                rintro w21 ⟨k0, k1, k3, k4, k5, hB⟩
                have r0 := row_of k0
                have f0 := frozen_of k0
                have z0 := blk_lt k0
                have r1 := row_of k1
                have f1 := frozen_of k1
                have z1 := blk_lt k1
                have r3 := row_of k3
                have f3 := frozen_of k3
                have z3 := blk_lt k3
                have r4 := row_of k4
                have f4 := frozen_of k4
                have z4 := blk_lt k4
                have r5 := row_of k5
                have f5 := frozen_of k5
                have z5 := blk_lt k5
                rcases arms.out with ⟨rfl, hz⟩ | ⟨rfl, rfl⟩ | ⟨rfl, rfl⟩
                · clear arms
                  have cz : ∀ W, Calls Try.prog 23 #[.agg #[.int .i64 p0, .int .i64 p1], .int .i64 n] W fun e w' => e = .returned (.bool true) ∧ Below W.heap.size W w' := fun W => by have t := has_any p0 p1 n W; rw [decide_eq_true hz] at t; exact t
                  replace cz := Lib.hid cz
                  clear hz
                  go_wp2_with fail
                  refine (cz.out _).mono ?_
                  rintro e w22 ⟨rfl, hb⟩
                  replace k0 := blk_keep hb k0
                  replace k1 := blk_keep hb k1
                  replace k3 := blk_keep hb k3
                  replace k4 := blk_keep hb k4
                  replace k5 := blk_keep hb k5
                  replace hB := hB.trans (hb.mono hB.size)
                  clear r0 f0 z0 r1 f1 z1 r3 f3 z3 r4 f4 z4 r5 f5 z5
                  clear hb
                  have r0 := row_of k0
                  have f0 := frozen_of k0
                  have z0 := blk_lt k0
                  have r1 := row_of k1
                  have f1 := frozen_of k1
                  have z1 := blk_lt k1
                  have r3 := row_of k3
                  have f3 := frozen_of k3
                  have z3 := blk_lt k3
                  have r4 := row_of k4
                  have f4 := frozen_of k4
                  have z4 := blk_lt k4
                  have r5 := row_of k5
                  have f5 := frozen_of k5
                  have z5 := blk_lt k5
                  go_upto_region 7 with fail
                  clear r0 f0 z0 r1 f1 z1 r3 f3 z3 r4 f4 z4 r5 f5 z5
                  go_wp2_with fail
                  exact ⟨⟨k + 1, by omega, by go_num, k0, k1, k3, k4, k5, hB⟩, by simp [intOf]; omega⟩
                · clear arms
                  go_upto_region 7 with fail
                  clear r0 f0 z0 r1 f1 z1 r3 f3 z3 r4 f4 z4 r5 f5 z5
                  go_wp2_with fail
                  exact ⟨⟨k + 1, by omega, by go_num, k0, k1, k3, k4, k5, hB⟩, by simp [intOf]; omega⟩
                · clear arms
                  go_upto_region 7 with fail
                  clear r0 f0 z0 r1 f1 z1 r3 f3 z3 r4 f4 z4 r5 f5 z5
                  go_wp2_with fail
                  exact ⟨⟨k + 1, by omega, by go_num, k0, k1, k3, k4, k5, hB⟩, by simp [intOf]; omega⟩
              · obtain rfl : k = 9 := by omega
                clear hk hlt k0 k1
                have hz := hd.out.zero
                have hnm := hd.out.norm
                have ch := has_any m g 0
                replace ch := Lib.hid ch
                go_upto_region 11 with fail
                by_cases h7 : 7 ≤ K
                · have hd7 := decide_eq_true h7
                  rw [hd7, Bool.true_and] at hz
                  by_cases hbz : m ≤ 0 ∧ 0 ≤ g
                  · rw [decide_eq_true hbz] at hz
                    subst hz
                    have ch2 : ∀ W, Calls Try.prog 23 #[.agg #[.int .i64 m, .int .i64 g], .int .i64 0] W fun e w' => e = .returned (.bool true) ∧ Below W.heap.size W w' := fun W => by have t := ch.out W; rw [decide_eq_true hbz] at t; exact t
                    replace ch2 := Lib.hid ch2
                    clear hbz h7 ch hd
                    rcases hnm with ⟨rfl, rfl⟩ | ⟨hz1, hz2, hz3⟩
                    · have ce2 : ∀ W, Calls Try.prog 24 #[.agg #[.int .i64 1, .int .i64 0]] W fun e w' => e = .returned (.bool true) ∧ Below W.heap.size W w' := fun W => by have t := empty_any 1 0 W; simpa using t
                      replace ce2 := Lib.hid ce2
                      have mkS : ∀ W, Below wr.heap.size wr W → (fun W => W.cell? ⟨n3, 0, none⟩ = some (.int .i64 m) ∧ W.cell? ⟨n3, 1, none⟩ = some (.int .i64 g) ∧ W.cell? ⟨w6.heap.size, 0, none⟩ = some (.int .i64 1) ∧ W.cell? ⟨w6.heap.size, 1, none⟩ = some (.int .i64 0) ∧ W.cell? ⟨w6.heap.size + 1, 0, none⟩ = some (.bool ov) ∧ W.cell? ⟨w6.heap.size + 1, 1, none⟩ = some (.bool true)) W := fun W h => ⟨row_of (blk_keep h k3) 0, row_of (blk_keep h k3) 1, row_of (blk_keep h k4) 0, row_of (blk_keep h k4) 1, row_of (blk_keep h k5) 0, row_of (blk_keep h k5) 1⟩
                      dsimp only at mkS
                      have hBn := Below.refl wr.heap.size wr
                      clear k3 k4 k5
                      refine wp_region_held_drew (S := fun W => W.cell? ⟨n3, 0, none⟩ = some (.int .i64 m) ∧ W.cell? ⟨n3, 1, none⟩ = some (.int .i64 g) ∧ W.cell? ⟨w6.heap.size, 0, none⟩ = some (.int .i64 1) ∧ W.cell? ⟨w6.heap.size, 1, none⟩ = some (.int .i64 0) ∧ W.cell? ⟨w6.heap.size + 1, 0, none⟩ = some (.bool ov) ∧ W.cell? ⟨w6.heap.size + 1, 1, none⟩ = some (.bool true)) (by kernel_rfl) ?_ (fun hHeld => ?_)
                      · first | (with_reducible exact mkS _ hBn) | (with_reducible exact mkS _ (Below.drew hBn))
                      refine only_at 0 (some 106) _ rfl rfl rfl (by kernel_rfl) (by rfl) (fun K hK => ?_)
                      go_simp
                      refine (does_any _).mono ?_
                      rintro e wn ⟨rfl, hbS⟩
                      (try (with_reducible replace hbS := below_undrew hbS))
                      replace hBn := below_tr hBn hbS
                      refine hK.out _ _ ?_ (fun hHeld => ?_)
                      · first | (with_reducible exact mkS _ hBn) | (with_reducible exact mkS _ (Below.drew hBn))
                      clear hK K
                      (try simp only [Act.put, List.setIfInBounds_toArray, List.set_cons_zero, List.set_cons_succ])
                      refine take_at 1 (some 107) (v := ?v1_1) rfl rfl (by kernel_rfl) (by kernel_rfl) (by kernel_rfl) (fun _ _ _ h => h) (Or.inl ⟨by rfl, ?hy1_1⟩) (by assumption) ?rest1_1
                      case hy1_1 => (intro w hSw; (try dsimp only at hSw); go_simp; (try with_reducible rfl))
                      (try simp only [Act.put, List.setIfInBounds_toArray, List.set_cons_zero, List.set_cons_succ])
                      refine take_at 2 (some 108) (v := ?v1_2) rfl rfl (by kernel_rfl) (by kernel_rfl) (by kernel_rfl) (fun _ _ _ h => h) (Or.inl ⟨by rfl, ?hy1_2⟩) (by assumption) ?rest1_2
                      case hy1_2 => (intro w hSw; (try dsimp only at hSw); go_simp; (try with_reducible rfl))
                      (try simp only [Act.put, List.setIfInBounds_toArray, List.set_cons_zero, List.set_cons_succ])
                      refine take_at 3 (some 109) (v := ?v1_3) rfl rfl (by kernel_rfl) (by kernel_rfl) (by kernel_rfl) (fun _ _ _ h => h) (Or.inl ⟨by rfl, ?hy1_3⟩) (by assumption) ?rest1_3
                      case hy1_3 => (intro w hSw; (try dsimp only at hSw); go_simp; (try with_reducible rfl))
                      (try simp only [Act.put, List.setIfInBounds_toArray, List.set_cons_zero, List.set_cons_succ])
                      refine take_at 4 (some 110) (v := ?v1_4) rfl rfl (by kernel_rfl) (by kernel_rfl) (by kernel_rfl) (fun _ _ _ h => h) (Or.inl ⟨by rfl, ?hy1_4⟩) (by assumption) ?rest1_4
                      case hy1_4 => (intro w hSw; (try dsimp only at hSw); go_simp; (try with_reducible rfl))
                      (try simp only [Act.put, List.setIfInBounds_toArray, List.set_cons_zero, List.set_cons_succ])
                      refine take_at 5 (some 111) (v := ?v1_5) rfl rfl (by kernel_rfl) (by kernel_rfl) (by kernel_rfl) (fun _ _ _ h => h) (Or.inl ⟨by rfl, ?hy1_5⟩) (by assumption) ?rest1_5
                      case hy1_5 => (intro w hSw; (try dsimp only at hSw); go_simp; (try with_reducible rfl))
                      (try simp only [Act.put, List.setIfInBounds_toArray, List.set_cons_zero, List.set_cons_succ])
                      refine take_at 6 (some 112) (v := ?v1_6) rfl rfl (by kernel_rfl) (by kernel_rfl) (by kernel_rfl) (fun _ _ _ h => h) (Or.inl ⟨by rfl, ?hy1_6⟩) (by assumption) ?rest1_6
                      case hy1_6 => (intro w hSw; (try dsimp only at hSw); go_simp; (try with_reducible rfl))
                      (try simp only [Act.put, List.setIfInBounds_toArray, List.set_cons_zero, List.set_cons_succ])
                      refine take_at 7 (some 113) (v := ?v1_7) rfl rfl (by kernel_rfl) (by kernel_rfl) (by kernel_rfl) (fun _ _ _ h => h) (Or.inl ⟨by rfl, ?hy1_7⟩) (by assumption) ?rest1_7
                      case hy1_7 => (intro w hSw; (try dsimp only at hSw); go_simp; (try with_reducible rfl))
                      (try simp only [Act.put, List.setIfInBounds_toArray, List.set_cons_zero, List.set_cons_succ])
                      refine only_at 8 (some 114) _ rfl rfl rfl (by kernel_rfl) (by rfl) (fun K hK => ?_)
                      go_simp
                      refine (ch2.out _).mono ?_
                      rintro e wn ⟨rfl, hbS⟩
                      (try (with_reducible replace hbS := below_undrew hbS))
                      replace hBn := below_tr hBn hbS
                      refine hK.out _ _ ?_ (fun hHeld => ?_)
                      · first | (with_reducible exact mkS _ hBn) | (with_reducible exact mkS _ (Below.drew hBn))
                      clear hK K
                      (try simp only [Act.put, List.setIfInBounds_toArray, List.set_cons_zero, List.set_cons_succ])
                      refine take_at 9 (some 115) (v := ?v1_9) rfl rfl (by kernel_rfl) (by kernel_rfl) (by kernel_rfl) (fun _ _ _ h => h) (Or.inl ⟨by rfl, ?hy1_9⟩) (by assumption) ?rest1_9
                      case hy1_9 => (intro w hSw; (try dsimp only at hSw); go_simp; (try with_reducible rfl))
                      (try simp only [Act.put, List.setIfInBounds_toArray, List.set_cons_zero, List.set_cons_succ])
                      refine take_at 10 (some 116) (v := ?v1_10) rfl rfl (by kernel_rfl) (by kernel_rfl) (by kernel_rfl) (fun _ _ _ h => h) (Or.inl ⟨by rfl, ?hy1_10⟩) (by assumption) ?rest1_10
                      case hy1_10 => (intro w hSw; (try dsimp only at hSw); go_simp; (try with_reducible rfl))
                      (try simp only [Act.put, List.setIfInBounds_toArray, List.set_cons_zero, List.set_cons_succ])
                      refine take_at 11 (some 117) (v := ?v1_11) rfl rfl (by kernel_rfl) (by kernel_rfl) (by kernel_rfl) (fun _ _ _ h => h) (Or.inl ⟨by rfl, ?hy1_11⟩) (by assumption) ?rest1_11
                      case hy1_11 => (intro w hSw; (try dsimp only at hSw); go_simp; (try with_reducible rfl))
                      (try simp only [Act.put, List.setIfInBounds_toArray, List.set_cons_zero, List.set_cons_succ])
                      refine take_at 12 (some 118) (v := ?v1_12) rfl rfl (by kernel_rfl) (by kernel_rfl) (by kernel_rfl) (fun _ _ _ h => h) (Or.inl ⟨by rfl, ?hy1_12⟩) (by assumption) ?rest1_12
                      case hy1_12 => (intro w hSw; (try dsimp only at hSw); go_simp; (try with_reducible rfl))
                      (try simp only [Act.put, List.setIfInBounds_toArray, List.set_cons_zero, List.set_cons_succ])
                      refine take_at 13 (some 119) (v := ?v1_13) rfl rfl (by kernel_rfl) (by kernel_rfl) (by kernel_rfl) (fun _ _ _ h => h) (Or.inl ⟨by rfl, ?hy1_13⟩) (by assumption) ?rest1_13
                      case hy1_13 => (intro w hSw; (try dsimp only at hSw); go_simp; (try with_reducible rfl))
                      (try simp only [Act.put, List.setIfInBounds_toArray, List.set_cons_zero, List.set_cons_succ])
                      refine only_at 14 (some 120) _ rfl rfl rfl (by kernel_rfl) (by rfl) (fun K hK => ?_)
                      go_simp
                      refine (ce2.out _).mono ?_
                      rintro e wn ⟨rfl, hbS⟩
                      (try (with_reducible replace hbS := below_undrew hbS))
                      replace hBn := below_tr hBn hbS
                      refine hK.out _ _ ?_ (fun hHeld => ?_)
                      · first | (with_reducible exact mkS _ hBn) | (with_reducible exact mkS _ (Below.drew hBn))
                      clear hK K
                      (try simp only [Act.put, List.setIfInBounds_toArray, List.set_cons_zero, List.set_cons_succ])
                      refine take_at 15 (some 121) (v := ?v1_15) rfl rfl (by kernel_rfl) (by kernel_rfl) (by kernel_rfl) (fun _ _ _ h => h) (Or.inl ⟨by rfl, ?hy1_15⟩) (by assumption) ?rest1_15
                      case hy1_15 => (intro w hSw; (try dsimp only at hSw); go_simp; (try with_reducible rfl))
                      (try simp only [Act.put, List.setIfInBounds_toArray, List.set_cons_zero, List.set_cons_succ])
                      refine take_at 16 (some 122) (v := undef) rfl rfl (by kernel_rfl) (by kernel_rfl) (by kernel_rfl) (fun _ _ _ h => h) (Or.inr ⟨by rfl, rfl⟩) (by assumption) ?_
                      (try simp only [Act.put, List.setIfInBounds_toArray, List.set_cons_zero, List.set_cons_succ])
                      refine take_at 17 (some 123) (v := undef) rfl rfl (by kernel_rfl) (by kernel_rfl) (by kernel_rfl) (fun _ _ _ h => h) (Or.inr ⟨by rfl, rfl⟩) (by assumption) ?_
                      (try simp only [Act.put, List.setIfInBounds_toArray, List.set_cons_zero, List.set_cons_succ])
                      refine take_at 18 (some 124) (v := undef) rfl rfl (by kernel_rfl) (by kernel_rfl) (by kernel_rfl) (fun _ _ _ h => h) (Or.inr ⟨by rfl, rfl⟩) (by assumption) ?_
                      (try simp only [Act.put, List.setIfInBounds_toArray, List.set_cons_zero, List.set_cons_succ])
                      refine take_at 19 (some 125) (v := undef) rfl rfl (by kernel_rfl) (by kernel_rfl) (by kernel_rfl) (fun _ _ _ h => h) (Or.inr ⟨by rfl, rfl⟩) (by assumption) ?_
                      (try simp only [Act.put, List.setIfInBounds_toArray, List.set_cons_zero, List.set_cons_succ])
                      refine take_at 20 (some 126) (v := undef) rfl rfl (by kernel_rfl) (by kernel_rfl) (by kernel_rfl) (fun _ _ _ h => h) (Or.inr ⟨by rfl, rfl⟩) (by assumption) ?_
                      (try simp only [Act.put, List.setIfInBounds_toArray, List.set_cons_zero, List.set_cons_succ])
                      refine take_at 21 (some 127) (v := undef) rfl rfl (by kernel_rfl) (by kernel_rfl) (by kernel_rfl) (fun _ _ _ h => h) (Or.inr ⟨by rfl, rfl⟩) (by assumption) ?_
                      (try simp only [Act.put, List.setIfInBounds_toArray, List.set_cons_zero, List.set_cons_succ])
                      refine take_at 22 (some 128) (v := undef) rfl rfl (by kernel_rfl) (by kernel_rfl) (by kernel_rfl) (fun _ _ _ h => h) (Or.inr ⟨by rfl, rfl⟩) (by assumption) ?_
                      (try simp only [Act.put, List.setIfInBounds_toArray, List.set_cons_zero, List.set_cons_succ])
                      refine take_at 23 (some 129) (v := undef) rfl rfl (by kernel_rfl) (by kernel_rfl) (by kernel_rfl) (fun _ _ _ h => h) (Or.inr ⟨by rfl, rfl⟩) (by assumption) ?_
                      (try simp only [Act.put, List.setIfInBounds_toArray, List.set_cons_zero, List.set_cons_succ])
                      refine take_at 24 (some 130) (v := ?v1_24) rfl rfl (by kernel_rfl) (by kernel_rfl) (by kernel_rfl) (fun _ _ _ h => h) (Or.inl ⟨by rfl, ?hy1_24⟩) (by assumption) ?rest1_24
                      case hy1_24 => (intro w hSw; (try dsimp only at hSw); go_simp; (try with_reducible rfl))
                      (try simp only [Act.put, List.setIfInBounds_toArray, List.set_cons_zero, List.set_cons_succ])
                      refine take_at 25 (some 131) (v := ?v1_25) rfl rfl (by kernel_rfl) (by kernel_rfl) (by kernel_rfl) (fun _ _ _ h => h) (Or.inl ⟨by rfl, ?hy1_25⟩) (by assumption) ?rest1_25
                      case hy1_25 => (intro w hSw; (try dsimp only at hSw); go_simp; (try with_reducible rfl))
                      (try simp only [Act.put, List.setIfInBounds_toArray, List.set_cons_zero, List.set_cons_succ])
                      refine take_at 26 (some 6) (v := ?v1_26) rfl rfl (by kernel_rfl) (by kernel_rfl) (by kernel_rfl) (fun _ _ _ h => h) (Or.inl ⟨by rfl, ?hy1_26⟩) (by assumption) ?rest1_26
                      case hy1_26 => (intro w hSw; (try dsimp only at hSw); go_simp; (try with_reducible rfl))
                      (try simp only [Act.put, List.setIfInBounds_toArray, List.set_cons_zero, List.set_cons_succ])
                      refine wpAnyH_done (by kernel_rfl) ?_ _
                      go_wp2_with fail
                      go_ret
                      exact ⟨by simp, below_tr hB hBn⟩
                    · have ce2 : ∀ W, Calls Try.prog 24 #[.agg #[.int .i64 p0, .int .i64 p1]] W fun e w' => e = .returned (.bool false) ∧ Below W.heap.size W w' := fun W => by have t := empty_any p0 p1 W; rw [decide_eq_false (by omega)] at t; exact t
                      have d0 : decide (-2147483648 ≤ p0) = true := decide_eq_true hz2
                      have d1 : decide (p1 ≤ 2147483647) = true := decide_eq_true hz3
                      clear hz1 hz2 hz3
                      replace ce2 := Lib.hid ce2
                      have mkS : ∀ W, Below wr.heap.size wr W → (fun W => W.cell? ⟨n3, 0, none⟩ = some (.int .i64 m) ∧ W.cell? ⟨n3, 1, none⟩ = some (.int .i64 g) ∧ W.cell? ⟨w6.heap.size, 0, none⟩ = some (.int .i64 p0) ∧ W.cell? ⟨w6.heap.size, 1, none⟩ = some (.int .i64 p1) ∧ W.cell? ⟨w6.heap.size + 1, 0, none⟩ = some (.bool ov) ∧ W.cell? ⟨w6.heap.size + 1, 1, none⟩ = some (.bool true)) W := fun W h => ⟨row_of (blk_keep h k3) 0, row_of (blk_keep h k3) 1, row_of (blk_keep h k4) 0, row_of (blk_keep h k4) 1, row_of (blk_keep h k5) 0, row_of (blk_keep h k5) 1⟩
                      dsimp only at mkS
                      have hBn := Below.refl wr.heap.size wr
                      clear k3 k4 k5
                      refine wp_region_held_drew (S := fun W => W.cell? ⟨n3, 0, none⟩ = some (.int .i64 m) ∧ W.cell? ⟨n3, 1, none⟩ = some (.int .i64 g) ∧ W.cell? ⟨w6.heap.size, 0, none⟩ = some (.int .i64 p0) ∧ W.cell? ⟨w6.heap.size, 1, none⟩ = some (.int .i64 p1) ∧ W.cell? ⟨w6.heap.size + 1, 0, none⟩ = some (.bool ov) ∧ W.cell? ⟨w6.heap.size + 1, 1, none⟩ = some (.bool true)) (by kernel_rfl) ?_ (fun hHeld => ?_)
                      · first | (with_reducible exact mkS _ hBn) | (with_reducible exact mkS _ (Below.drew hBn))
                      refine only_at 0 (some 106) _ rfl rfl rfl (by kernel_rfl) (by rfl) (fun K hK => ?_)
                      go_simp
                      refine (does_any _).mono ?_
                      rintro e wn ⟨rfl, hbS⟩
                      (try (with_reducible replace hbS := below_undrew hbS))
                      replace hBn := below_tr hBn hbS
                      refine hK.out _ _ ?_ (fun hHeld => ?_)
                      · first | (with_reducible exact mkS _ hBn) | (with_reducible exact mkS _ (Below.drew hBn))
                      clear hK K
                      (try simp only [Act.put, List.setIfInBounds_toArray, List.set_cons_zero, List.set_cons_succ])
                      refine take_at 1 (some 107) (v := ?v2_1) rfl rfl (by kernel_rfl) (by kernel_rfl) (by kernel_rfl) (fun _ _ _ h => h) (Or.inl ⟨by rfl, ?hy2_1⟩) (by assumption) ?rest2_1
                      case hy2_1 => (intro w hSw; (try dsimp only at hSw); go_simp; (try with_reducible rfl))
                      (try simp only [Act.put, List.setIfInBounds_toArray, List.set_cons_zero, List.set_cons_succ])
                      refine take_at 2 (some 108) (v := ?v2_2) rfl rfl (by kernel_rfl) (by kernel_rfl) (by kernel_rfl) (fun _ _ _ h => h) (Or.inl ⟨by rfl, ?hy2_2⟩) (by assumption) ?rest2_2
                      case hy2_2 => (intro w hSw; (try dsimp only at hSw); go_simp; (try with_reducible rfl))
                      (try simp only [Act.put, List.setIfInBounds_toArray, List.set_cons_zero, List.set_cons_succ])
                      refine take_at 3 (some 109) (v := ?v2_3) rfl rfl (by kernel_rfl) (by kernel_rfl) (by kernel_rfl) (fun _ _ _ h => h) (Or.inl ⟨by rfl, ?hy2_3⟩) (by assumption) ?rest2_3
                      case hy2_3 => (intro w hSw; (try dsimp only at hSw); go_simp; (try with_reducible rfl))
                      (try simp only [Act.put, List.setIfInBounds_toArray, List.set_cons_zero, List.set_cons_succ])
                      refine take_at 4 (some 110) (v := ?v2_4) rfl rfl (by kernel_rfl) (by kernel_rfl) (by kernel_rfl) (fun _ _ _ h => h) (Or.inl ⟨by rfl, ?hy2_4⟩) (by assumption) ?rest2_4
                      case hy2_4 => (intro w hSw; (try dsimp only at hSw); go_simp; (try with_reducible rfl))
                      (try simp only [Act.put, List.setIfInBounds_toArray, List.set_cons_zero, List.set_cons_succ])
                      refine take_at 5 (some 111) (v := ?v2_5) rfl rfl (by kernel_rfl) (by kernel_rfl) (by kernel_rfl) (fun _ _ _ h => h) (Or.inl ⟨by rfl, ?hy2_5⟩) (by assumption) ?rest2_5
                      case hy2_5 => (intro w hSw; (try dsimp only at hSw); go_simp; (try with_reducible rfl))
                      (try simp only [Act.put, List.setIfInBounds_toArray, List.set_cons_zero, List.set_cons_succ])
                      refine take_at 6 (some 112) (v := ?v2_6) rfl rfl (by kernel_rfl) (by kernel_rfl) (by kernel_rfl) (fun _ _ _ h => h) (Or.inl ⟨by rfl, ?hy2_6⟩) (by assumption) ?rest2_6
                      case hy2_6 => (intro w hSw; (try dsimp only at hSw); go_simp; (try with_reducible rfl))
                      (try simp only [Act.put, List.setIfInBounds_toArray, List.set_cons_zero, List.set_cons_succ])
                      refine take_at 7 (some 113) (v := ?v2_7) rfl rfl (by kernel_rfl) (by kernel_rfl) (by kernel_rfl) (fun _ _ _ h => h) (Or.inl ⟨by rfl, ?hy2_7⟩) (by assumption) ?rest2_7
                      case hy2_7 => (intro w hSw; (try dsimp only at hSw); go_simp; (try with_reducible rfl))
                      (try simp only [Act.put, List.setIfInBounds_toArray, List.set_cons_zero, List.set_cons_succ])
                      refine only_at 8 (some 114) _ rfl rfl rfl (by kernel_rfl) (by rfl) (fun K hK => ?_)
                      go_simp
                      refine (ch2.out _).mono ?_
                      rintro e wn ⟨rfl, hbS⟩
                      (try (with_reducible replace hbS := below_undrew hbS))
                      replace hBn := below_tr hBn hbS
                      refine hK.out _ _ ?_ (fun hHeld => ?_)
                      · first | (with_reducible exact mkS _ hBn) | (with_reducible exact mkS _ (Below.drew hBn))
                      clear hK K
                      (try simp only [Act.put, List.setIfInBounds_toArray, List.set_cons_zero, List.set_cons_succ])
                      refine take_at 9 (some 115) (v := ?v2_9) rfl rfl (by kernel_rfl) (by kernel_rfl) (by kernel_rfl) (fun _ _ _ h => h) (Or.inl ⟨by rfl, ?hy2_9⟩) (by assumption) ?rest2_9
                      case hy2_9 => (intro w hSw; (try dsimp only at hSw); go_simp; (try with_reducible rfl))
                      (try simp only [Act.put, List.setIfInBounds_toArray, List.set_cons_zero, List.set_cons_succ])
                      refine take_at 10 (some 116) (v := ?v2_10) rfl rfl (by kernel_rfl) (by kernel_rfl) (by kernel_rfl) (fun _ _ _ h => h) (Or.inl ⟨by rfl, ?hy2_10⟩) (by assumption) ?rest2_10
                      case hy2_10 => (intro w hSw; (try dsimp only at hSw); go_simp; (try with_reducible rfl))
                      (try simp only [Act.put, List.setIfInBounds_toArray, List.set_cons_zero, List.set_cons_succ])
                      refine take_at 11 (some 117) (v := ?v2_11) rfl rfl (by kernel_rfl) (by kernel_rfl) (by kernel_rfl) (fun _ _ _ h => h) (Or.inl ⟨by rfl, ?hy2_11⟩) (by assumption) ?rest2_11
                      case hy2_11 => (intro w hSw; (try dsimp only at hSw); go_simp; (try with_reducible rfl))
                      (try simp only [Act.put, List.setIfInBounds_toArray, List.set_cons_zero, List.set_cons_succ])
                      refine take_at 12 (some 118) (v := ?v2_12) rfl rfl (by kernel_rfl) (by kernel_rfl) (by kernel_rfl) (fun _ _ _ h => h) (Or.inl ⟨by rfl, ?hy2_12⟩) (by assumption) ?rest2_12
                      case hy2_12 => (intro w hSw; (try dsimp only at hSw); go_simp; (try with_reducible rfl))
                      (try simp only [Act.put, List.setIfInBounds_toArray, List.set_cons_zero, List.set_cons_succ])
                      refine take_at 13 (some 119) (v := ?v2_13) rfl rfl (by kernel_rfl) (by kernel_rfl) (by kernel_rfl) (fun _ _ _ h => h) (Or.inl ⟨by rfl, ?hy2_13⟩) (by assumption) ?rest2_13
                      case hy2_13 => (intro w hSw; (try dsimp only at hSw); go_simp; (try with_reducible rfl))
                      (try simp only [Act.put, List.setIfInBounds_toArray, List.set_cons_zero, List.set_cons_succ])
                      refine only_at 14 (some 120) _ rfl rfl rfl (by kernel_rfl) (by rfl) (fun K hK => ?_)
                      go_simp
                      refine (ce2.out _).mono ?_
                      rintro e wn ⟨rfl, hbS⟩
                      (try (with_reducible replace hbS := below_undrew hbS))
                      replace hBn := below_tr hBn hbS
                      refine hK.out _ _ ?_ (fun hHeld => ?_)
                      · first | (with_reducible exact mkS _ hBn) | (with_reducible exact mkS _ (Below.drew hBn))
                      clear hK K
                      (try simp only [Act.put, List.setIfInBounds_toArray, List.set_cons_zero, List.set_cons_succ])
                      refine take_at 15 (some 121) (v := ?v2_15) rfl rfl (by kernel_rfl) (by kernel_rfl) (by kernel_rfl) (fun _ _ _ h => h) (Or.inl ⟨by rfl, ?hy2_15⟩) (by assumption) ?rest2_15
                      case hy2_15 => (intro w hSw; (try dsimp only at hSw); go_simp; (try with_reducible rfl))
                      (try simp only [Act.put, List.setIfInBounds_toArray, List.set_cons_zero, List.set_cons_succ])
                      refine take_at 16 (some 122) (v := ?v2_16) rfl rfl (by kernel_rfl) (by kernel_rfl) (by kernel_rfl) (fun _ _ _ h => h) (Or.inl ⟨by rfl, ?hy2_16⟩) (by assumption) ?rest2_16
                      case hy2_16 => (intro w hSw; (try dsimp only at hSw); go_simp; (try with_reducible rfl))
                      (try simp only [Act.put, List.setIfInBounds_toArray, List.set_cons_zero, List.set_cons_succ])
                      refine take_at 17 (some 123) (v := ?v2_17) rfl rfl (by kernel_rfl) (by kernel_rfl) (by kernel_rfl) (fun _ _ _ h => h) (Or.inl ⟨by rfl, ?hy2_17⟩) (by assumption) ?rest2_17
                      case hy2_17 => (intro w hSw; (try dsimp only at hSw); go_simp; (try with_reducible rfl))
                      (try simp only [Act.put, List.setIfInBounds_toArray, List.set_cons_zero, List.set_cons_succ])
                      refine take_at 18 (some 124) (v := ?v2_18) rfl rfl (by kernel_rfl) (by kernel_rfl) (by kernel_rfl) (fun _ _ _ h => h) (Or.inl ⟨by rfl, ?hy2_18⟩) (by assumption) ?rest2_18
                      case hy2_18 => (intro w hSw; (try dsimp only at hSw); go_simp; (try with_reducible rfl))
                      (try simp only [Act.put, List.setIfInBounds_toArray, List.set_cons_zero, List.set_cons_succ])
                      refine take_at 19 (some 125) (v := ?v2_19) rfl rfl (by kernel_rfl) (by kernel_rfl) (by kernel_rfl) (fun _ _ _ h => h) (Or.inl ⟨by rfl, ?hy2_19⟩) (by assumption) ?rest2_19
                      case hy2_19 => (intro w hSw; (try dsimp only at hSw); go_simp; (try with_reducible rfl))
                      (try simp only [Act.put, List.setIfInBounds_toArray, List.set_cons_zero, List.set_cons_succ])
                      refine take_at 20 (some 126) (v := ?v2_20) rfl rfl (by kernel_rfl) (by kernel_rfl) (by kernel_rfl) (fun _ _ _ h => h) (Or.inl ⟨by rfl, ?hy2_20⟩) (by assumption) ?rest2_20
                      case hy2_20 => (intro w hSw; (try dsimp only at hSw); go_simp; (try with_reducible rfl))
                      (try simp only [Act.put, List.setIfInBounds_toArray, List.set_cons_zero, List.set_cons_succ])
                      refine take_at 21 (some 127) (v := ?v2_21) rfl rfl (by kernel_rfl) (by kernel_rfl) (by kernel_rfl) (fun _ _ _ h => h) (Or.inl ⟨by rfl, ?hy2_21⟩) (by assumption) ?rest2_21
                      case hy2_21 => (intro w hSw; (try dsimp only at hSw); go_simp; (try with_reducible rfl))
                      (try simp only [Act.put, List.setIfInBounds_toArray, List.set_cons_zero, List.set_cons_succ])
                      refine take_at 22 (some 128) (v := ?v2_22) rfl rfl (by kernel_rfl) (by kernel_rfl) (by kernel_rfl) (fun _ _ _ h => h) (Or.inl ⟨by rfl, ?hy2_22⟩) (by assumption) ?rest2_22
                      case hy2_22 => (intro w hSw; (try dsimp only at hSw); go_simp; (try with_reducible rfl))
                      (try simp only [Act.put, List.setIfInBounds_toArray, List.set_cons_zero, List.set_cons_succ])
                      refine take_at 23 (some 129) (v := ?v2_23) rfl rfl (by kernel_rfl) (by kernel_rfl) (by kernel_rfl) (fun _ _ _ h => h) (Or.inl ⟨by rfl, ?hy2_23⟩) (by assumption) ?rest2_23
                      case hy2_23 => (intro w hSw; (try dsimp only at hSw); go_simp; (try with_reducible rfl))
                      (try simp only [Act.put, List.setIfInBounds_toArray, List.set_cons_zero, List.set_cons_succ])
                      refine take_at 24 (some 130) (v := ?v2_24) rfl rfl (by kernel_rfl) (by kernel_rfl) (by kernel_rfl) (fun _ _ _ h => h) (Or.inl ⟨by rfl, ?hy2_24⟩) (by assumption) ?rest2_24
                      case hy2_24 => (intro w hSw; (try dsimp only at hSw); go_simp; (try with_reducible rfl))
                      (try simp only [Act.put, List.setIfInBounds_toArray, List.set_cons_zero, List.set_cons_succ])
                      refine take_at 25 (some 131) (v := ?v2_25) rfl rfl (by kernel_rfl) (by kernel_rfl) (by kernel_rfl) (fun _ _ _ h => h) (Or.inl ⟨by rfl, ?hy2_25⟩) (by assumption) ?rest2_25
                      case hy2_25 => (intro w hSw; (try dsimp only at hSw); go_simp; (try with_reducible rfl))
                      (try simp only [Act.put, List.setIfInBounds_toArray, List.set_cons_zero, List.set_cons_succ])
                      refine take_at 26 (some 6) (v := ?v2_26) rfl rfl (by kernel_rfl) (by kernel_rfl) (by kernel_rfl) (fun _ _ _ h => h) (Or.inl ⟨by rfl, ?hy2_26⟩) (by assumption) ?rest2_26
                      case hy2_26 => (intro w hSw; (try dsimp only at hSw); go_simp; (try with_reducible rfl))
                      (try simp only [Act.put, List.setIfInBounds_toArray, List.set_cons_zero, List.set_cons_succ])
                      refine wpAnyH_done (by kernel_rfl) ?_ _
                      go_wp2_with fail
                      go_ret
                      exact ⟨by simp, below_tr hB hBn⟩
                  · rw [decide_eq_false hbz] at hz
                    subst hz
                    have ch2 : ∀ W, Calls Try.prog 23 #[.agg #[.int .i64 m, .int .i64 g], .int .i64 0] W fun e w' => e = .returned (.bool false) ∧ Below W.heap.size W w' := fun W => by have t := ch.out W; rw [decide_eq_false hbz] at t; exact t
                    replace ch2 := Lib.hid ch2
                    clear hbz h7 ch hd
                    rcases hnm with ⟨rfl, rfl⟩ | ⟨hz1, hz2, hz3⟩
                    · have ce2 : ∀ W, Calls Try.prog 24 #[.agg #[.int .i64 1, .int .i64 0]] W fun e w' => e = .returned (.bool true) ∧ Below W.heap.size W w' := fun W => by have t := empty_any 1 0 W; simpa using t
                      replace ce2 := Lib.hid ce2
                      have mkS : ∀ W, Below wr.heap.size wr W → (fun W => W.cell? ⟨n3, 0, none⟩ = some (.int .i64 m) ∧ W.cell? ⟨n3, 1, none⟩ = some (.int .i64 g) ∧ W.cell? ⟨w6.heap.size, 0, none⟩ = some (.int .i64 1) ∧ W.cell? ⟨w6.heap.size, 1, none⟩ = some (.int .i64 0) ∧ W.cell? ⟨w6.heap.size + 1, 0, none⟩ = some (.bool ov) ∧ W.cell? ⟨w6.heap.size + 1, 1, none⟩ = some (.bool false)) W := fun W h => ⟨row_of (blk_keep h k3) 0, row_of (blk_keep h k3) 1, row_of (blk_keep h k4) 0, row_of (blk_keep h k4) 1, row_of (blk_keep h k5) 0, row_of (blk_keep h k5) 1⟩
                      dsimp only at mkS
                      have hBn := Below.refl wr.heap.size wr
                      clear k3 k4 k5
                      refine wp_region_held_drew (S := fun W => W.cell? ⟨n3, 0, none⟩ = some (.int .i64 m) ∧ W.cell? ⟨n3, 1, none⟩ = some (.int .i64 g) ∧ W.cell? ⟨w6.heap.size, 0, none⟩ = some (.int .i64 1) ∧ W.cell? ⟨w6.heap.size, 1, none⟩ = some (.int .i64 0) ∧ W.cell? ⟨w6.heap.size + 1, 0, none⟩ = some (.bool ov) ∧ W.cell? ⟨w6.heap.size + 1, 1, none⟩ = some (.bool false)) (by kernel_rfl) ?_ (fun hHeld => ?_)
                      · first | (with_reducible exact mkS _ hBn) | (with_reducible exact mkS _ (Below.drew hBn))
                      refine only_at 0 (some 106) _ rfl rfl rfl (by kernel_rfl) (by rfl) (fun K hK => ?_)
                      go_simp
                      refine (does_any _).mono ?_
                      rintro e wn ⟨rfl, hbS⟩
                      (try (with_reducible replace hbS := below_undrew hbS))
                      replace hBn := below_tr hBn hbS
                      refine hK.out _ _ ?_ (fun hHeld => ?_)
                      · first | (with_reducible exact mkS _ hBn) | (with_reducible exact mkS _ (Below.drew hBn))
                      clear hK K
                      (try simp only [Act.put, List.setIfInBounds_toArray, List.set_cons_zero, List.set_cons_succ])
                      refine take_at 1 (some 107) (v := ?v3_1) rfl rfl (by kernel_rfl) (by kernel_rfl) (by kernel_rfl) (fun _ _ _ h => h) (Or.inl ⟨by rfl, ?hy3_1⟩) (by assumption) ?rest3_1
                      case hy3_1 => (intro w hSw; (try dsimp only at hSw); go_simp; (try with_reducible rfl))
                      (try simp only [Act.put, List.setIfInBounds_toArray, List.set_cons_zero, List.set_cons_succ])
                      refine take_at 2 (some 108) (v := ?v3_2) rfl rfl (by kernel_rfl) (by kernel_rfl) (by kernel_rfl) (fun _ _ _ h => h) (Or.inl ⟨by rfl, ?hy3_2⟩) (by assumption) ?rest3_2
                      case hy3_2 => (intro w hSw; (try dsimp only at hSw); go_simp; (try with_reducible rfl))
                      (try simp only [Act.put, List.setIfInBounds_toArray, List.set_cons_zero, List.set_cons_succ])
                      refine take_at 3 (some 109) (v := ?v3_3) rfl rfl (by kernel_rfl) (by kernel_rfl) (by kernel_rfl) (fun _ _ _ h => h) (Or.inl ⟨by rfl, ?hy3_3⟩) (by assumption) ?rest3_3
                      case hy3_3 => (intro w hSw; (try dsimp only at hSw); go_simp; (try with_reducible rfl))
                      (try simp only [Act.put, List.setIfInBounds_toArray, List.set_cons_zero, List.set_cons_succ])
                      refine take_at 4 (some 110) (v := ?v3_4) rfl rfl (by kernel_rfl) (by kernel_rfl) (by kernel_rfl) (fun _ _ _ h => h) (Or.inl ⟨by rfl, ?hy3_4⟩) (by assumption) ?rest3_4
                      case hy3_4 => (intro w hSw; (try dsimp only at hSw); go_simp; (try with_reducible rfl))
                      (try simp only [Act.put, List.setIfInBounds_toArray, List.set_cons_zero, List.set_cons_succ])
                      refine take_at 5 (some 111) (v := ?v3_5) rfl rfl (by kernel_rfl) (by kernel_rfl) (by kernel_rfl) (fun _ _ _ h => h) (Or.inl ⟨by rfl, ?hy3_5⟩) (by assumption) ?rest3_5
                      case hy3_5 => (intro w hSw; (try dsimp only at hSw); go_simp; (try with_reducible rfl))
                      (try simp only [Act.put, List.setIfInBounds_toArray, List.set_cons_zero, List.set_cons_succ])
                      refine take_at 6 (some 112) (v := ?v3_6) rfl rfl (by kernel_rfl) (by kernel_rfl) (by kernel_rfl) (fun _ _ _ h => h) (Or.inl ⟨by rfl, ?hy3_6⟩) (by assumption) ?rest3_6
                      case hy3_6 => (intro w hSw; (try dsimp only at hSw); go_simp; (try with_reducible rfl))
                      (try simp only [Act.put, List.setIfInBounds_toArray, List.set_cons_zero, List.set_cons_succ])
                      refine take_at 7 (some 113) (v := ?v3_7) rfl rfl (by kernel_rfl) (by kernel_rfl) (by kernel_rfl) (fun _ _ _ h => h) (Or.inl ⟨by rfl, ?hy3_7⟩) (by assumption) ?rest3_7
                      case hy3_7 => (intro w hSw; (try dsimp only at hSw); go_simp; (try with_reducible rfl))
                      (try simp only [Act.put, List.setIfInBounds_toArray, List.set_cons_zero, List.set_cons_succ])
                      refine only_at 8 (some 114) _ rfl rfl rfl (by kernel_rfl) (by rfl) (fun K hK => ?_)
                      go_simp
                      refine (ch2.out _).mono ?_
                      rintro e wn ⟨rfl, hbS⟩
                      (try (with_reducible replace hbS := below_undrew hbS))
                      replace hBn := below_tr hBn hbS
                      refine hK.out _ _ ?_ (fun hHeld => ?_)
                      · first | (with_reducible exact mkS _ hBn) | (with_reducible exact mkS _ (Below.drew hBn))
                      clear hK K
                      (try simp only [Act.put, List.setIfInBounds_toArray, List.set_cons_zero, List.set_cons_succ])
                      refine take_at 9 (some 115) (v := ?v3_9) rfl rfl (by kernel_rfl) (by kernel_rfl) (by kernel_rfl) (fun _ _ _ h => h) (Or.inl ⟨by rfl, ?hy3_9⟩) (by assumption) ?rest3_9
                      case hy3_9 => (intro w hSw; (try dsimp only at hSw); go_simp; (try with_reducible rfl))
                      (try simp only [Act.put, List.setIfInBounds_toArray, List.set_cons_zero, List.set_cons_succ])
                      refine take_at 10 (some 116) (v := ?v3_10) rfl rfl (by kernel_rfl) (by kernel_rfl) (by kernel_rfl) (fun _ _ _ h => h) (Or.inl ⟨by rfl, ?hy3_10⟩) (by assumption) ?rest3_10
                      case hy3_10 => (intro w hSw; (try dsimp only at hSw); go_simp; (try with_reducible rfl))
                      (try simp only [Act.put, List.setIfInBounds_toArray, List.set_cons_zero, List.set_cons_succ])
                      refine take_at 11 (some 117) (v := ?v3_11) rfl rfl (by kernel_rfl) (by kernel_rfl) (by kernel_rfl) (fun _ _ _ h => h) (Or.inl ⟨by rfl, ?hy3_11⟩) (by assumption) ?rest3_11
                      case hy3_11 => (intro w hSw; (try dsimp only at hSw); go_simp; (try with_reducible rfl))
                      (try simp only [Act.put, List.setIfInBounds_toArray, List.set_cons_zero, List.set_cons_succ])
                      refine take_at 12 (some 118) (v := ?v3_12) rfl rfl (by kernel_rfl) (by kernel_rfl) (by kernel_rfl) (fun _ _ _ h => h) (Or.inl ⟨by rfl, ?hy3_12⟩) (by assumption) ?rest3_12
                      case hy3_12 => (intro w hSw; (try dsimp only at hSw); go_simp; (try with_reducible rfl))
                      (try simp only [Act.put, List.setIfInBounds_toArray, List.set_cons_zero, List.set_cons_succ])
                      refine take_at 13 (some 119) (v := ?v3_13) rfl rfl (by kernel_rfl) (by kernel_rfl) (by kernel_rfl) (fun _ _ _ h => h) (Or.inl ⟨by rfl, ?hy3_13⟩) (by assumption) ?rest3_13
                      case hy3_13 => (intro w hSw; (try dsimp only at hSw); go_simp; (try with_reducible rfl))
                      (try simp only [Act.put, List.setIfInBounds_toArray, List.set_cons_zero, List.set_cons_succ])
                      refine only_at 14 (some 120) _ rfl rfl rfl (by kernel_rfl) (by rfl) (fun K hK => ?_)
                      go_simp
                      refine (ce2.out _).mono ?_
                      rintro e wn ⟨rfl, hbS⟩
                      (try (with_reducible replace hbS := below_undrew hbS))
                      replace hBn := below_tr hBn hbS
                      refine hK.out _ _ ?_ (fun hHeld => ?_)
                      · first | (with_reducible exact mkS _ hBn) | (with_reducible exact mkS _ (Below.drew hBn))
                      clear hK K
                      (try simp only [Act.put, List.setIfInBounds_toArray, List.set_cons_zero, List.set_cons_succ])
                      refine take_at 15 (some 121) (v := ?v3_15) rfl rfl (by kernel_rfl) (by kernel_rfl) (by kernel_rfl) (fun _ _ _ h => h) (Or.inl ⟨by rfl, ?hy3_15⟩) (by assumption) ?rest3_15
                      case hy3_15 => (intro w hSw; (try dsimp only at hSw); go_simp; (try with_reducible rfl))
                      (try simp only [Act.put, List.setIfInBounds_toArray, List.set_cons_zero, List.set_cons_succ])
                      refine take_at 16 (some 122) (v := undef) rfl rfl (by kernel_rfl) (by kernel_rfl) (by kernel_rfl) (fun _ _ _ h => h) (Or.inr ⟨by rfl, rfl⟩) (by assumption) ?_
                      (try simp only [Act.put, List.setIfInBounds_toArray, List.set_cons_zero, List.set_cons_succ])
                      refine take_at 17 (some 123) (v := undef) rfl rfl (by kernel_rfl) (by kernel_rfl) (by kernel_rfl) (fun _ _ _ h => h) (Or.inr ⟨by rfl, rfl⟩) (by assumption) ?_
                      (try simp only [Act.put, List.setIfInBounds_toArray, List.set_cons_zero, List.set_cons_succ])
                      refine take_at 18 (some 124) (v := undef) rfl rfl (by kernel_rfl) (by kernel_rfl) (by kernel_rfl) (fun _ _ _ h => h) (Or.inr ⟨by rfl, rfl⟩) (by assumption) ?_
                      (try simp only [Act.put, List.setIfInBounds_toArray, List.set_cons_zero, List.set_cons_succ])
                      refine take_at 19 (some 125) (v := undef) rfl rfl (by kernel_rfl) (by kernel_rfl) (by kernel_rfl) (fun _ _ _ h => h) (Or.inr ⟨by rfl, rfl⟩) (by assumption) ?_
                      (try simp only [Act.put, List.setIfInBounds_toArray, List.set_cons_zero, List.set_cons_succ])
                      refine take_at 20 (some 126) (v := undef) rfl rfl (by kernel_rfl) (by kernel_rfl) (by kernel_rfl) (fun _ _ _ h => h) (Or.inr ⟨by rfl, rfl⟩) (by assumption) ?_
                      (try simp only [Act.put, List.setIfInBounds_toArray, List.set_cons_zero, List.set_cons_succ])
                      refine take_at 21 (some 127) (v := undef) rfl rfl (by kernel_rfl) (by kernel_rfl) (by kernel_rfl) (fun _ _ _ h => h) (Or.inr ⟨by rfl, rfl⟩) (by assumption) ?_
                      (try simp only [Act.put, List.setIfInBounds_toArray, List.set_cons_zero, List.set_cons_succ])
                      refine take_at 22 (some 128) (v := undef) rfl rfl (by kernel_rfl) (by kernel_rfl) (by kernel_rfl) (fun _ _ _ h => h) (Or.inr ⟨by rfl, rfl⟩) (by assumption) ?_
                      (try simp only [Act.put, List.setIfInBounds_toArray, List.set_cons_zero, List.set_cons_succ])
                      refine take_at 23 (some 129) (v := undef) rfl rfl (by kernel_rfl) (by kernel_rfl) (by kernel_rfl) (fun _ _ _ h => h) (Or.inr ⟨by rfl, rfl⟩) (by assumption) ?_
                      (try simp only [Act.put, List.setIfInBounds_toArray, List.set_cons_zero, List.set_cons_succ])
                      refine take_at 24 (some 130) (v := ?v3_24) rfl rfl (by kernel_rfl) (by kernel_rfl) (by kernel_rfl) (fun _ _ _ h => h) (Or.inl ⟨by rfl, ?hy3_24⟩) (by assumption) ?rest3_24
                      case hy3_24 => (intro w hSw; (try dsimp only at hSw); go_simp; (try with_reducible rfl))
                      (try simp only [Act.put, List.setIfInBounds_toArray, List.set_cons_zero, List.set_cons_succ])
                      refine take_at 25 (some 131) (v := ?v3_25) rfl rfl (by kernel_rfl) (by kernel_rfl) (by kernel_rfl) (fun _ _ _ h => h) (Or.inl ⟨by rfl, ?hy3_25⟩) (by assumption) ?rest3_25
                      case hy3_25 => (intro w hSw; (try dsimp only at hSw); go_simp; (try with_reducible rfl))
                      (try simp only [Act.put, List.setIfInBounds_toArray, List.set_cons_zero, List.set_cons_succ])
                      refine take_at 26 (some 6) (v := ?v3_26) rfl rfl (by kernel_rfl) (by kernel_rfl) (by kernel_rfl) (fun _ _ _ h => h) (Or.inl ⟨by rfl, ?hy3_26⟩) (by assumption) ?rest3_26
                      case hy3_26 => (intro w hSw; (try dsimp only at hSw); go_simp; (try with_reducible rfl))
                      (try simp only [Act.put, List.setIfInBounds_toArray, List.set_cons_zero, List.set_cons_succ])
                      refine wpAnyH_done (by kernel_rfl) ?_ _
                      go_wp2_with fail
                      go_ret
                      exact ⟨by simp, below_tr hB hBn⟩
                    · have ce2 : ∀ W, Calls Try.prog 24 #[.agg #[.int .i64 p0, .int .i64 p1]] W fun e w' => e = .returned (.bool false) ∧ Below W.heap.size W w' := fun W => by have t := empty_any p0 p1 W; rw [decide_eq_false (by omega)] at t; exact t
                      have d0 : decide (-2147483648 ≤ p0) = true := decide_eq_true hz2
                      have d1 : decide (p1 ≤ 2147483647) = true := decide_eq_true hz3
                      clear hz1 hz2 hz3
                      replace ce2 := Lib.hid ce2
                      have mkS : ∀ W, Below wr.heap.size wr W → (fun W => W.cell? ⟨n3, 0, none⟩ = some (.int .i64 m) ∧ W.cell? ⟨n3, 1, none⟩ = some (.int .i64 g) ∧ W.cell? ⟨w6.heap.size, 0, none⟩ = some (.int .i64 p0) ∧ W.cell? ⟨w6.heap.size, 1, none⟩ = some (.int .i64 p1) ∧ W.cell? ⟨w6.heap.size + 1, 0, none⟩ = some (.bool ov) ∧ W.cell? ⟨w6.heap.size + 1, 1, none⟩ = some (.bool false)) W := fun W h => ⟨row_of (blk_keep h k3) 0, row_of (blk_keep h k3) 1, row_of (blk_keep h k4) 0, row_of (blk_keep h k4) 1, row_of (blk_keep h k5) 0, row_of (blk_keep h k5) 1⟩
                      dsimp only at mkS
                      have hBn := Below.refl wr.heap.size wr
                      clear k3 k4 k5
                      refine wp_region_held_drew (S := fun W => W.cell? ⟨n3, 0, none⟩ = some (.int .i64 m) ∧ W.cell? ⟨n3, 1, none⟩ = some (.int .i64 g) ∧ W.cell? ⟨w6.heap.size, 0, none⟩ = some (.int .i64 p0) ∧ W.cell? ⟨w6.heap.size, 1, none⟩ = some (.int .i64 p1) ∧ W.cell? ⟨w6.heap.size + 1, 0, none⟩ = some (.bool ov) ∧ W.cell? ⟨w6.heap.size + 1, 1, none⟩ = some (.bool false)) (by kernel_rfl) ?_ (fun hHeld => ?_)
                      · first | (with_reducible exact mkS _ hBn) | (with_reducible exact mkS _ (Below.drew hBn))
                      refine only_at 0 (some 106) _ rfl rfl rfl (by kernel_rfl) (by rfl) (fun K hK => ?_)
                      go_simp
                      refine (does_any _).mono ?_
                      rintro e wn ⟨rfl, hbS⟩
                      (try (with_reducible replace hbS := below_undrew hbS))
                      replace hBn := below_tr hBn hbS
                      refine hK.out _ _ ?_ (fun hHeld => ?_)
                      · first | (with_reducible exact mkS _ hBn) | (with_reducible exact mkS _ (Below.drew hBn))
                      clear hK K
                      (try simp only [Act.put, List.setIfInBounds_toArray, List.set_cons_zero, List.set_cons_succ])
                      refine take_at 1 (some 107) (v := ?v4_1) rfl rfl (by kernel_rfl) (by kernel_rfl) (by kernel_rfl) (fun _ _ _ h => h) (Or.inl ⟨by rfl, ?hy4_1⟩) (by assumption) ?rest4_1
                      case hy4_1 => (intro w hSw; (try dsimp only at hSw); go_simp; (try with_reducible rfl))
                      (try simp only [Act.put, List.setIfInBounds_toArray, List.set_cons_zero, List.set_cons_succ])
                      refine take_at 2 (some 108) (v := ?v4_2) rfl rfl (by kernel_rfl) (by kernel_rfl) (by kernel_rfl) (fun _ _ _ h => h) (Or.inl ⟨by rfl, ?hy4_2⟩) (by assumption) ?rest4_2
                      case hy4_2 => (intro w hSw; (try dsimp only at hSw); go_simp; (try with_reducible rfl))
                      (try simp only [Act.put, List.setIfInBounds_toArray, List.set_cons_zero, List.set_cons_succ])
                      refine take_at 3 (some 109) (v := ?v4_3) rfl rfl (by kernel_rfl) (by kernel_rfl) (by kernel_rfl) (fun _ _ _ h => h) (Or.inl ⟨by rfl, ?hy4_3⟩) (by assumption) ?rest4_3
                      case hy4_3 => (intro w hSw; (try dsimp only at hSw); go_simp; (try with_reducible rfl))
                      (try simp only [Act.put, List.setIfInBounds_toArray, List.set_cons_zero, List.set_cons_succ])
                      refine take_at 4 (some 110) (v := ?v4_4) rfl rfl (by kernel_rfl) (by kernel_rfl) (by kernel_rfl) (fun _ _ _ h => h) (Or.inl ⟨by rfl, ?hy4_4⟩) (by assumption) ?rest4_4
                      case hy4_4 => (intro w hSw; (try dsimp only at hSw); go_simp; (try with_reducible rfl))
                      (try simp only [Act.put, List.setIfInBounds_toArray, List.set_cons_zero, List.set_cons_succ])
                      refine take_at 5 (some 111) (v := ?v4_5) rfl rfl (by kernel_rfl) (by kernel_rfl) (by kernel_rfl) (fun _ _ _ h => h) (Or.inl ⟨by rfl, ?hy4_5⟩) (by assumption) ?rest4_5
                      case hy4_5 => (intro w hSw; (try dsimp only at hSw); go_simp; (try with_reducible rfl))
                      (try simp only [Act.put, List.setIfInBounds_toArray, List.set_cons_zero, List.set_cons_succ])
                      refine take_at 6 (some 112) (v := ?v4_6) rfl rfl (by kernel_rfl) (by kernel_rfl) (by kernel_rfl) (fun _ _ _ h => h) (Or.inl ⟨by rfl, ?hy4_6⟩) (by assumption) ?rest4_6
                      case hy4_6 => (intro w hSw; (try dsimp only at hSw); go_simp; (try with_reducible rfl))
                      (try simp only [Act.put, List.setIfInBounds_toArray, List.set_cons_zero, List.set_cons_succ])
                      refine take_at 7 (some 113) (v := ?v4_7) rfl rfl (by kernel_rfl) (by kernel_rfl) (by kernel_rfl) (fun _ _ _ h => h) (Or.inl ⟨by rfl, ?hy4_7⟩) (by assumption) ?rest4_7
                      case hy4_7 => (intro w hSw; (try dsimp only at hSw); go_simp; (try with_reducible rfl))
                      (try simp only [Act.put, List.setIfInBounds_toArray, List.set_cons_zero, List.set_cons_succ])
                      refine only_at 8 (some 114) _ rfl rfl rfl (by kernel_rfl) (by rfl) (fun K hK => ?_)
                      go_simp
                      refine (ch2.out _).mono ?_
                      rintro e wn ⟨rfl, hbS⟩
                      (try (with_reducible replace hbS := below_undrew hbS))
                      replace hBn := below_tr hBn hbS
                      refine hK.out _ _ ?_ (fun hHeld => ?_)
                      · first | (with_reducible exact mkS _ hBn) | (with_reducible exact mkS _ (Below.drew hBn))
                      clear hK K
                      (try simp only [Act.put, List.setIfInBounds_toArray, List.set_cons_zero, List.set_cons_succ])
                      refine take_at 9 (some 115) (v := ?v4_9) rfl rfl (by kernel_rfl) (by kernel_rfl) (by kernel_rfl) (fun _ _ _ h => h) (Or.inl ⟨by rfl, ?hy4_9⟩) (by assumption) ?rest4_9
                      case hy4_9 => (intro w hSw; (try dsimp only at hSw); go_simp; (try with_reducible rfl))
                      (try simp only [Act.put, List.setIfInBounds_toArray, List.set_cons_zero, List.set_cons_succ])
                      refine take_at 10 (some 116) (v := ?v4_10) rfl rfl (by kernel_rfl) (by kernel_rfl) (by kernel_rfl) (fun _ _ _ h => h) (Or.inl ⟨by rfl, ?hy4_10⟩) (by assumption) ?rest4_10
                      case hy4_10 => (intro w hSw; (try dsimp only at hSw); go_simp; (try with_reducible rfl))
                      (try simp only [Act.put, List.setIfInBounds_toArray, List.set_cons_zero, List.set_cons_succ])
                      refine take_at 11 (some 117) (v := ?v4_11) rfl rfl (by kernel_rfl) (by kernel_rfl) (by kernel_rfl) (fun _ _ _ h => h) (Or.inl ⟨by rfl, ?hy4_11⟩) (by assumption) ?rest4_11
                      case hy4_11 => (intro w hSw; (try dsimp only at hSw); go_simp; (try with_reducible rfl))
                      (try simp only [Act.put, List.setIfInBounds_toArray, List.set_cons_zero, List.set_cons_succ])
                      refine take_at 12 (some 118) (v := ?v4_12) rfl rfl (by kernel_rfl) (by kernel_rfl) (by kernel_rfl) (fun _ _ _ h => h) (Or.inl ⟨by rfl, ?hy4_12⟩) (by assumption) ?rest4_12
                      case hy4_12 => (intro w hSw; (try dsimp only at hSw); go_simp; (try with_reducible rfl))
                      (try simp only [Act.put, List.setIfInBounds_toArray, List.set_cons_zero, List.set_cons_succ])
                      refine take_at 13 (some 119) (v := ?v4_13) rfl rfl (by kernel_rfl) (by kernel_rfl) (by kernel_rfl) (fun _ _ _ h => h) (Or.inl ⟨by rfl, ?hy4_13⟩) (by assumption) ?rest4_13
                      case hy4_13 => (intro w hSw; (try dsimp only at hSw); go_simp; (try with_reducible rfl))
                      (try simp only [Act.put, List.setIfInBounds_toArray, List.set_cons_zero, List.set_cons_succ])
                      refine only_at 14 (some 120) _ rfl rfl rfl (by kernel_rfl) (by rfl) (fun K hK => ?_)
                      go_simp
                      refine (ce2.out _).mono ?_
                      rintro e wn ⟨rfl, hbS⟩
                      (try (with_reducible replace hbS := below_undrew hbS))
                      replace hBn := below_tr hBn hbS
                      refine hK.out _ _ ?_ (fun hHeld => ?_)
                      · first | (with_reducible exact mkS _ hBn) | (with_reducible exact mkS _ (Below.drew hBn))
                      clear hK K
                      (try simp only [Act.put, List.setIfInBounds_toArray, List.set_cons_zero, List.set_cons_succ])
                      refine take_at 15 (some 121) (v := ?v4_15) rfl rfl (by kernel_rfl) (by kernel_rfl) (by kernel_rfl) (fun _ _ _ h => h) (Or.inl ⟨by rfl, ?hy4_15⟩) (by assumption) ?rest4_15
                      case hy4_15 => (intro w hSw; (try dsimp only at hSw); go_simp; (try with_reducible rfl))
                      (try simp only [Act.put, List.setIfInBounds_toArray, List.set_cons_zero, List.set_cons_succ])
                      refine take_at 16 (some 122) (v := ?v4_16) rfl rfl (by kernel_rfl) (by kernel_rfl) (by kernel_rfl) (fun _ _ _ h => h) (Or.inl ⟨by rfl, ?hy4_16⟩) (by assumption) ?rest4_16
                      case hy4_16 => (intro w hSw; (try dsimp only at hSw); go_simp; (try with_reducible rfl))
                      (try simp only [Act.put, List.setIfInBounds_toArray, List.set_cons_zero, List.set_cons_succ])
                      refine take_at 17 (some 123) (v := ?v4_17) rfl rfl (by kernel_rfl) (by kernel_rfl) (by kernel_rfl) (fun _ _ _ h => h) (Or.inl ⟨by rfl, ?hy4_17⟩) (by assumption) ?rest4_17
                      case hy4_17 => (intro w hSw; (try dsimp only at hSw); go_simp; (try with_reducible rfl))
                      (try simp only [Act.put, List.setIfInBounds_toArray, List.set_cons_zero, List.set_cons_succ])
                      refine take_at 18 (some 124) (v := ?v4_18) rfl rfl (by kernel_rfl) (by kernel_rfl) (by kernel_rfl) (fun _ _ _ h => h) (Or.inl ⟨by rfl, ?hy4_18⟩) (by assumption) ?rest4_18
                      case hy4_18 => (intro w hSw; (try dsimp only at hSw); go_simp; (try with_reducible rfl))
                      (try simp only [Act.put, List.setIfInBounds_toArray, List.set_cons_zero, List.set_cons_succ])
                      refine take_at 19 (some 125) (v := ?v4_19) rfl rfl (by kernel_rfl) (by kernel_rfl) (by kernel_rfl) (fun _ _ _ h => h) (Or.inl ⟨by rfl, ?hy4_19⟩) (by assumption) ?rest4_19
                      case hy4_19 => (intro w hSw; (try dsimp only at hSw); go_simp; (try with_reducible rfl))
                      (try simp only [Act.put, List.setIfInBounds_toArray, List.set_cons_zero, List.set_cons_succ])
                      refine take_at 20 (some 126) (v := ?v4_20) rfl rfl (by kernel_rfl) (by kernel_rfl) (by kernel_rfl) (fun _ _ _ h => h) (Or.inl ⟨by rfl, ?hy4_20⟩) (by assumption) ?rest4_20
                      case hy4_20 => (intro w hSw; (try dsimp only at hSw); go_simp; (try with_reducible rfl))
                      (try simp only [Act.put, List.setIfInBounds_toArray, List.set_cons_zero, List.set_cons_succ])
                      refine take_at 21 (some 127) (v := ?v4_21) rfl rfl (by kernel_rfl) (by kernel_rfl) (by kernel_rfl) (fun _ _ _ h => h) (Or.inl ⟨by rfl, ?hy4_21⟩) (by assumption) ?rest4_21
                      case hy4_21 => (intro w hSw; (try dsimp only at hSw); go_simp; (try with_reducible rfl))
                      (try simp only [Act.put, List.setIfInBounds_toArray, List.set_cons_zero, List.set_cons_succ])
                      refine take_at 22 (some 128) (v := ?v4_22) rfl rfl (by kernel_rfl) (by kernel_rfl) (by kernel_rfl) (fun _ _ _ h => h) (Or.inl ⟨by rfl, ?hy4_22⟩) (by assumption) ?rest4_22
                      case hy4_22 => (intro w hSw; (try dsimp only at hSw); go_simp; (try with_reducible rfl))
                      (try simp only [Act.put, List.setIfInBounds_toArray, List.set_cons_zero, List.set_cons_succ])
                      refine take_at 23 (some 129) (v := ?v4_23) rfl rfl (by kernel_rfl) (by kernel_rfl) (by kernel_rfl) (fun _ _ _ h => h) (Or.inl ⟨by rfl, ?hy4_23⟩) (by assumption) ?rest4_23
                      case hy4_23 => (intro w hSw; (try dsimp only at hSw); go_simp; (try with_reducible rfl))
                      (try simp only [Act.put, List.setIfInBounds_toArray, List.set_cons_zero, List.set_cons_succ])
                      refine take_at 24 (some 130) (v := ?v4_24) rfl rfl (by kernel_rfl) (by kernel_rfl) (by kernel_rfl) (fun _ _ _ h => h) (Or.inl ⟨by rfl, ?hy4_24⟩) (by assumption) ?rest4_24
                      case hy4_24 => (intro w hSw; (try dsimp only at hSw); go_simp; (try with_reducible rfl))
                      (try simp only [Act.put, List.setIfInBounds_toArray, List.set_cons_zero, List.set_cons_succ])
                      refine take_at 25 (some 131) (v := ?v4_25) rfl rfl (by kernel_rfl) (by kernel_rfl) (by kernel_rfl) (fun _ _ _ h => h) (Or.inl ⟨by rfl, ?hy4_25⟩) (by assumption) ?rest4_25
                      case hy4_25 => (intro w hSw; (try dsimp only at hSw); go_simp; (try with_reducible rfl))
                      (try simp only [Act.put, List.setIfInBounds_toArray, List.set_cons_zero, List.set_cons_succ])
                      refine take_at 26 (some 6) (v := ?v4_26) rfl rfl (by kernel_rfl) (by kernel_rfl) (by kernel_rfl) (fun _ _ _ h => h) (Or.inl ⟨by rfl, ?hy4_26⟩) (by assumption) ?rest4_26
                      case hy4_26 => (intro w hSw; (try dsimp only at hSw); go_simp; (try with_reducible rfl))
                      (try simp only [Act.put, List.setIfInBounds_toArray, List.set_cons_zero, List.set_cons_succ])
                      refine wpAnyH_done (by kernel_rfl) ?_ _
                      go_wp2_with fail
                      go_ret
                      exact ⟨by simp, below_tr hB hBn⟩
                · have hd7 := decide_eq_false h7
                  rw [hd7, Bool.false_and] at hz
                  subst hz
                  clear h7 ch hd
                  rcases hnm with ⟨rfl, rfl⟩ | ⟨hz1, hz2, hz3⟩
                  · have ce2 : ∀ W, Calls Try.prog 24 #[.agg #[.int .i64 1, .int .i64 0]] W fun e w' => e = .returned (.bool true) ∧ Below W.heap.size W w' := fun W => by have t := empty_any 1 0 W; simpa using t
                    replace ce2 := Lib.hid ce2
                    have mkS : ∀ W, Below wr.heap.size wr W → (fun W => W.cell? ⟨n3, 0, none⟩ = some (.int .i64 m) ∧ W.cell? ⟨n3, 1, none⟩ = some (.int .i64 g) ∧ W.cell? ⟨w6.heap.size, 0, none⟩ = some (.int .i64 1) ∧ W.cell? ⟨w6.heap.size, 1, none⟩ = some (.int .i64 0) ∧ W.cell? ⟨w6.heap.size + 1, 0, none⟩ = some (.bool ov) ∧ W.cell? ⟨w6.heap.size + 1, 1, none⟩ = some (.bool false)) W := fun W h => ⟨row_of (blk_keep h k3) 0, row_of (blk_keep h k3) 1, row_of (blk_keep h k4) 0, row_of (blk_keep h k4) 1, row_of (blk_keep h k5) 0, row_of (blk_keep h k5) 1⟩
                    dsimp only at mkS
                    have hBn := Below.refl wr.heap.size wr
                    clear k3 k4 k5
                    refine wp_region_held_drew (S := fun W => W.cell? ⟨n3, 0, none⟩ = some (.int .i64 m) ∧ W.cell? ⟨n3, 1, none⟩ = some (.int .i64 g) ∧ W.cell? ⟨w6.heap.size, 0, none⟩ = some (.int .i64 1) ∧ W.cell? ⟨w6.heap.size, 1, none⟩ = some (.int .i64 0) ∧ W.cell? ⟨w6.heap.size + 1, 0, none⟩ = some (.bool ov) ∧ W.cell? ⟨w6.heap.size + 1, 1, none⟩ = some (.bool false)) (by kernel_rfl) ?_ (fun hHeld => ?_)
                    · first | (with_reducible exact mkS _ hBn) | (with_reducible exact mkS _ (Below.drew hBn))
                    refine only_at 0 (some 106) _ rfl rfl rfl (by kernel_rfl) (by rfl) (fun K hK => ?_)
                    go_simp
                    refine (does_any _).mono ?_
                    rintro e wn ⟨rfl, hbS⟩
                    (try (with_reducible replace hbS := below_undrew hbS))
                    replace hBn := below_tr hBn hbS
                    refine hK.out _ _ ?_ (fun hHeld => ?_)
                    · first | (with_reducible exact mkS _ hBn) | (with_reducible exact mkS _ (Below.drew hBn))
                    clear hK K
                    (try simp only [Act.put, List.setIfInBounds_toArray, List.set_cons_zero, List.set_cons_succ])
                    refine take_at 1 (some 107) (v := ?v5_1) rfl rfl (by kernel_rfl) (by kernel_rfl) (by kernel_rfl) (fun _ _ _ h => h) (Or.inl ⟨by rfl, ?hy5_1⟩) (by assumption) ?rest5_1
                    case hy5_1 => (intro w hSw; (try dsimp only at hSw); go_simp; (try with_reducible rfl))
                    (try simp only [Act.put, List.setIfInBounds_toArray, List.set_cons_zero, List.set_cons_succ])
                    refine take_at 2 (some 108) (v := ?v5_2) rfl rfl (by kernel_rfl) (by kernel_rfl) (by kernel_rfl) (fun _ _ _ h => h) (Or.inl ⟨by rfl, ?hy5_2⟩) (by assumption) ?rest5_2
                    case hy5_2 => (intro w hSw; (try dsimp only at hSw); go_simp; (try with_reducible rfl))
                    (try simp only [Act.put, List.setIfInBounds_toArray, List.set_cons_zero, List.set_cons_succ])
                    refine take_at 3 (some 109) (v := ?v5_3) rfl rfl (by kernel_rfl) (by kernel_rfl) (by kernel_rfl) (fun _ _ _ h => h) (Or.inl ⟨by rfl, ?hy5_3⟩) (by assumption) ?rest5_3
                    case hy5_3 => (intro w hSw; (try dsimp only at hSw); go_simp; (try with_reducible rfl))
                    (try simp only [Act.put, List.setIfInBounds_toArray, List.set_cons_zero, List.set_cons_succ])
                    refine take_at 4 (some 110) (v := ?v5_4) rfl rfl (by kernel_rfl) (by kernel_rfl) (by kernel_rfl) (fun _ _ _ h => h) (Or.inl ⟨by rfl, ?hy5_4⟩) (by assumption) ?rest5_4
                    case hy5_4 => (intro w hSw; (try dsimp only at hSw); go_simp; (try with_reducible rfl))
                    (try simp only [Act.put, List.setIfInBounds_toArray, List.set_cons_zero, List.set_cons_succ])
                    refine take_at 5 (some 111) (v := ?v5_5) rfl rfl (by kernel_rfl) (by kernel_rfl) (by kernel_rfl) (fun _ _ _ h => h) (Or.inl ⟨by rfl, ?hy5_5⟩) (by assumption) ?rest5_5
                    case hy5_5 => (intro w hSw; (try dsimp only at hSw); go_simp; (try with_reducible rfl))
                    (try simp only [Act.put, List.setIfInBounds_toArray, List.set_cons_zero, List.set_cons_succ])
                    refine take_at 6 (some 112) (v := ?v5_6) rfl rfl (by kernel_rfl) (by kernel_rfl) (by kernel_rfl) (fun _ _ _ h => h) (Or.inl ⟨by rfl, ?hy5_6⟩) (by assumption) ?rest5_6
                    case hy5_6 => (intro w hSw; (try dsimp only at hSw); go_simp; (try with_reducible rfl))
                    (try simp only [Act.put, List.setIfInBounds_toArray, List.set_cons_zero, List.set_cons_succ])
                    refine take_at 7 (some 113) (v := undef) rfl rfl (by kernel_rfl) (by kernel_rfl) (by kernel_rfl) (fun _ _ _ h => h) (Or.inr ⟨by rfl, rfl⟩) (by assumption) ?_
                    (try simp only [Act.put, List.setIfInBounds_toArray, List.set_cons_zero, List.set_cons_succ])
                    refine take_at 8 (some 114) (v := undef) rfl rfl (by kernel_rfl) (by kernel_rfl) (by kernel_rfl) (fun _ _ _ h => h) (Or.inr ⟨by rfl, rfl⟩) (by assumption) ?_
                    (try simp only [Act.put, List.setIfInBounds_toArray, List.set_cons_zero, List.set_cons_succ])
                    refine take_at 9 (some 115) (v := ?v5_9) rfl rfl (by kernel_rfl) (by kernel_rfl) (by kernel_rfl) (fun _ _ _ h => h) (Or.inl ⟨by rfl, ?hy5_9⟩) (by assumption) ?rest5_9
                    case hy5_9 => (intro w hSw; (try dsimp only at hSw); go_simp; (try with_reducible rfl))
                    (try simp only [Act.put, List.setIfInBounds_toArray, List.set_cons_zero, List.set_cons_succ])
                    refine take_at 10 (some 116) (v := ?v5_10) rfl rfl (by kernel_rfl) (by kernel_rfl) (by kernel_rfl) (fun _ _ _ h => h) (Or.inl ⟨by rfl, ?hy5_10⟩) (by assumption) ?rest5_10
                    case hy5_10 => (intro w hSw; (try dsimp only at hSw); go_simp; (try with_reducible rfl))
                    (try simp only [Act.put, List.setIfInBounds_toArray, List.set_cons_zero, List.set_cons_succ])
                    refine take_at 11 (some 117) (v := ?v5_11) rfl rfl (by kernel_rfl) (by kernel_rfl) (by kernel_rfl) (fun _ _ _ h => h) (Or.inl ⟨by rfl, ?hy5_11⟩) (by assumption) ?rest5_11
                    case hy5_11 => (intro w hSw; (try dsimp only at hSw); go_simp; (try with_reducible rfl))
                    (try simp only [Act.put, List.setIfInBounds_toArray, List.set_cons_zero, List.set_cons_succ])
                    refine take_at 12 (some 118) (v := ?v5_12) rfl rfl (by kernel_rfl) (by kernel_rfl) (by kernel_rfl) (fun _ _ _ h => h) (Or.inl ⟨by rfl, ?hy5_12⟩) (by assumption) ?rest5_12
                    case hy5_12 => (intro w hSw; (try dsimp only at hSw); go_simp; (try with_reducible rfl))
                    (try simp only [Act.put, List.setIfInBounds_toArray, List.set_cons_zero, List.set_cons_succ])
                    refine take_at 13 (some 119) (v := ?v5_13) rfl rfl (by kernel_rfl) (by kernel_rfl) (by kernel_rfl) (fun _ _ _ h => h) (Or.inl ⟨by rfl, ?hy5_13⟩) (by assumption) ?rest5_13
                    case hy5_13 => (intro w hSw; (try dsimp only at hSw); go_simp; (try with_reducible rfl))
                    (try simp only [Act.put, List.setIfInBounds_toArray, List.set_cons_zero, List.set_cons_succ])
                    refine only_at 14 (some 120) _ rfl rfl rfl (by kernel_rfl) (by rfl) (fun K hK => ?_)
                    go_simp
                    refine (ce2.out _).mono ?_
                    rintro e wn ⟨rfl, hbS⟩
                    (try (with_reducible replace hbS := below_undrew hbS))
                    replace hBn := below_tr hBn hbS
                    refine hK.out _ _ ?_ (fun hHeld => ?_)
                    · first | (with_reducible exact mkS _ hBn) | (with_reducible exact mkS _ (Below.drew hBn))
                    clear hK K
                    (try simp only [Act.put, List.setIfInBounds_toArray, List.set_cons_zero, List.set_cons_succ])
                    refine take_at 15 (some 121) (v := ?v5_15) rfl rfl (by kernel_rfl) (by kernel_rfl) (by kernel_rfl) (fun _ _ _ h => h) (Or.inl ⟨by rfl, ?hy5_15⟩) (by assumption) ?rest5_15
                    case hy5_15 => (intro w hSw; (try dsimp only at hSw); go_simp; (try with_reducible rfl))
                    (try simp only [Act.put, List.setIfInBounds_toArray, List.set_cons_zero, List.set_cons_succ])
                    refine take_at 16 (some 122) (v := undef) rfl rfl (by kernel_rfl) (by kernel_rfl) (by kernel_rfl) (fun _ _ _ h => h) (Or.inr ⟨by rfl, rfl⟩) (by assumption) ?_
                    (try simp only [Act.put, List.setIfInBounds_toArray, List.set_cons_zero, List.set_cons_succ])
                    refine take_at 17 (some 123) (v := undef) rfl rfl (by kernel_rfl) (by kernel_rfl) (by kernel_rfl) (fun _ _ _ h => h) (Or.inr ⟨by rfl, rfl⟩) (by assumption) ?_
                    (try simp only [Act.put, List.setIfInBounds_toArray, List.set_cons_zero, List.set_cons_succ])
                    refine take_at 18 (some 124) (v := undef) rfl rfl (by kernel_rfl) (by kernel_rfl) (by kernel_rfl) (fun _ _ _ h => h) (Or.inr ⟨by rfl, rfl⟩) (by assumption) ?_
                    (try simp only [Act.put, List.setIfInBounds_toArray, List.set_cons_zero, List.set_cons_succ])
                    refine take_at 19 (some 125) (v := undef) rfl rfl (by kernel_rfl) (by kernel_rfl) (by kernel_rfl) (fun _ _ _ h => h) (Or.inr ⟨by rfl, rfl⟩) (by assumption) ?_
                    (try simp only [Act.put, List.setIfInBounds_toArray, List.set_cons_zero, List.set_cons_succ])
                    refine take_at 20 (some 126) (v := undef) rfl rfl (by kernel_rfl) (by kernel_rfl) (by kernel_rfl) (fun _ _ _ h => h) (Or.inr ⟨by rfl, rfl⟩) (by assumption) ?_
                    (try simp only [Act.put, List.setIfInBounds_toArray, List.set_cons_zero, List.set_cons_succ])
                    refine take_at 21 (some 127) (v := undef) rfl rfl (by kernel_rfl) (by kernel_rfl) (by kernel_rfl) (fun _ _ _ h => h) (Or.inr ⟨by rfl, rfl⟩) (by assumption) ?_
                    (try simp only [Act.put, List.setIfInBounds_toArray, List.set_cons_zero, List.set_cons_succ])
                    refine take_at 22 (some 128) (v := undef) rfl rfl (by kernel_rfl) (by kernel_rfl) (by kernel_rfl) (fun _ _ _ h => h) (Or.inr ⟨by rfl, rfl⟩) (by assumption) ?_
                    (try simp only [Act.put, List.setIfInBounds_toArray, List.set_cons_zero, List.set_cons_succ])
                    refine take_at 23 (some 129) (v := undef) rfl rfl (by kernel_rfl) (by kernel_rfl) (by kernel_rfl) (fun _ _ _ h => h) (Or.inr ⟨by rfl, rfl⟩) (by assumption) ?_
                    (try simp only [Act.put, List.setIfInBounds_toArray, List.set_cons_zero, List.set_cons_succ])
                    refine take_at 24 (some 130) (v := ?v5_24) rfl rfl (by kernel_rfl) (by kernel_rfl) (by kernel_rfl) (fun _ _ _ h => h) (Or.inl ⟨by rfl, ?hy5_24⟩) (by assumption) ?rest5_24
                    case hy5_24 => (intro w hSw; (try dsimp only at hSw); go_simp; (try with_reducible rfl))
                    (try simp only [Act.put, List.setIfInBounds_toArray, List.set_cons_zero, List.set_cons_succ])
                    refine take_at 25 (some 131) (v := ?v5_25) rfl rfl (by kernel_rfl) (by kernel_rfl) (by kernel_rfl) (fun _ _ _ h => h) (Or.inl ⟨by rfl, ?hy5_25⟩) (by assumption) ?rest5_25
                    case hy5_25 => (intro w hSw; (try dsimp only at hSw); go_simp; (try with_reducible rfl))
                    (try simp only [Act.put, List.setIfInBounds_toArray, List.set_cons_zero, List.set_cons_succ])
                    refine take_at 26 (some 6) (v := ?v5_26) rfl rfl (by kernel_rfl) (by kernel_rfl) (by kernel_rfl) (fun _ _ _ h => h) (Or.inl ⟨by rfl, ?hy5_26⟩) (by assumption) ?rest5_26
                    case hy5_26 => (intro w hSw; (try dsimp only at hSw); go_simp; (try with_reducible rfl))
                    (try simp only [Act.put, List.setIfInBounds_toArray, List.set_cons_zero, List.set_cons_succ])
                    refine wpAnyH_done (by kernel_rfl) ?_ _
                    go_wp2_with fail
                    go_ret
                    exact ⟨by simp, below_tr hB hBn⟩
                  · have ce2 : ∀ W, Calls Try.prog 24 #[.agg #[.int .i64 p0, .int .i64 p1]] W fun e w' => e = .returned (.bool false) ∧ Below W.heap.size W w' := fun W => by have t := empty_any p0 p1 W; rw [decide_eq_false (by omega)] at t; exact t
                    have d0 : decide (-2147483648 ≤ p0) = true := decide_eq_true hz2
                    have d1 : decide (p1 ≤ 2147483647) = true := decide_eq_true hz3
                    clear hz1 hz2 hz3
                    replace ce2 := Lib.hid ce2
                    have mkS : ∀ W, Below wr.heap.size wr W → (fun W => W.cell? ⟨n3, 0, none⟩ = some (.int .i64 m) ∧ W.cell? ⟨n3, 1, none⟩ = some (.int .i64 g) ∧ W.cell? ⟨w6.heap.size, 0, none⟩ = some (.int .i64 p0) ∧ W.cell? ⟨w6.heap.size, 1, none⟩ = some (.int .i64 p1) ∧ W.cell? ⟨w6.heap.size + 1, 0, none⟩ = some (.bool ov) ∧ W.cell? ⟨w6.heap.size + 1, 1, none⟩ = some (.bool false)) W := fun W h => ⟨row_of (blk_keep h k3) 0, row_of (blk_keep h k3) 1, row_of (blk_keep h k4) 0, row_of (blk_keep h k4) 1, row_of (blk_keep h k5) 0, row_of (blk_keep h k5) 1⟩
                    dsimp only at mkS
                    have hBn := Below.refl wr.heap.size wr
                    clear k3 k4 k5
                    refine wp_region_held_drew (S := fun W => W.cell? ⟨n3, 0, none⟩ = some (.int .i64 m) ∧ W.cell? ⟨n3, 1, none⟩ = some (.int .i64 g) ∧ W.cell? ⟨w6.heap.size, 0, none⟩ = some (.int .i64 p0) ∧ W.cell? ⟨w6.heap.size, 1, none⟩ = some (.int .i64 p1) ∧ W.cell? ⟨w6.heap.size + 1, 0, none⟩ = some (.bool ov) ∧ W.cell? ⟨w6.heap.size + 1, 1, none⟩ = some (.bool false)) (by kernel_rfl) ?_ (fun hHeld => ?_)
                    · first | (with_reducible exact mkS _ hBn) | (with_reducible exact mkS _ (Below.drew hBn))
                    refine only_at 0 (some 106) _ rfl rfl rfl (by kernel_rfl) (by rfl) (fun K hK => ?_)
                    go_simp
                    refine (does_any _).mono ?_
                    rintro e wn ⟨rfl, hbS⟩
                    (try (with_reducible replace hbS := below_undrew hbS))
                    replace hBn := below_tr hBn hbS
                    refine hK.out _ _ ?_ (fun hHeld => ?_)
                    · first | (with_reducible exact mkS _ hBn) | (with_reducible exact mkS _ (Below.drew hBn))
                    clear hK K
                    (try simp only [Act.put, List.setIfInBounds_toArray, List.set_cons_zero, List.set_cons_succ])
                    refine take_at 1 (some 107) (v := ?v6_1) rfl rfl (by kernel_rfl) (by kernel_rfl) (by kernel_rfl) (fun _ _ _ h => h) (Or.inl ⟨by rfl, ?hy6_1⟩) (by assumption) ?rest6_1
                    case hy6_1 => (intro w hSw; (try dsimp only at hSw); go_simp; (try with_reducible rfl))
                    (try simp only [Act.put, List.setIfInBounds_toArray, List.set_cons_zero, List.set_cons_succ])
                    refine take_at 2 (some 108) (v := ?v6_2) rfl rfl (by kernel_rfl) (by kernel_rfl) (by kernel_rfl) (fun _ _ _ h => h) (Or.inl ⟨by rfl, ?hy6_2⟩) (by assumption) ?rest6_2
                    case hy6_2 => (intro w hSw; (try dsimp only at hSw); go_simp; (try with_reducible rfl))
                    (try simp only [Act.put, List.setIfInBounds_toArray, List.set_cons_zero, List.set_cons_succ])
                    refine take_at 3 (some 109) (v := ?v6_3) rfl rfl (by kernel_rfl) (by kernel_rfl) (by kernel_rfl) (fun _ _ _ h => h) (Or.inl ⟨by rfl, ?hy6_3⟩) (by assumption) ?rest6_3
                    case hy6_3 => (intro w hSw; (try dsimp only at hSw); go_simp; (try with_reducible rfl))
                    (try simp only [Act.put, List.setIfInBounds_toArray, List.set_cons_zero, List.set_cons_succ])
                    refine take_at 4 (some 110) (v := ?v6_4) rfl rfl (by kernel_rfl) (by kernel_rfl) (by kernel_rfl) (fun _ _ _ h => h) (Or.inl ⟨by rfl, ?hy6_4⟩) (by assumption) ?rest6_4
                    case hy6_4 => (intro w hSw; (try dsimp only at hSw); go_simp; (try with_reducible rfl))
                    (try simp only [Act.put, List.setIfInBounds_toArray, List.set_cons_zero, List.set_cons_succ])
                    refine take_at 5 (some 111) (v := ?v6_5) rfl rfl (by kernel_rfl) (by kernel_rfl) (by kernel_rfl) (fun _ _ _ h => h) (Or.inl ⟨by rfl, ?hy6_5⟩) (by assumption) ?rest6_5
                    case hy6_5 => (intro w hSw; (try dsimp only at hSw); go_simp; (try with_reducible rfl))
                    (try simp only [Act.put, List.setIfInBounds_toArray, List.set_cons_zero, List.set_cons_succ])
                    refine take_at 6 (some 112) (v := ?v6_6) rfl rfl (by kernel_rfl) (by kernel_rfl) (by kernel_rfl) (fun _ _ _ h => h) (Or.inl ⟨by rfl, ?hy6_6⟩) (by assumption) ?rest6_6
                    case hy6_6 => (intro w hSw; (try dsimp only at hSw); go_simp; (try with_reducible rfl))
                    (try simp only [Act.put, List.setIfInBounds_toArray, List.set_cons_zero, List.set_cons_succ])
                    refine take_at 7 (some 113) (v := undef) rfl rfl (by kernel_rfl) (by kernel_rfl) (by kernel_rfl) (fun _ _ _ h => h) (Or.inr ⟨by rfl, rfl⟩) (by assumption) ?_
                    (try simp only [Act.put, List.setIfInBounds_toArray, List.set_cons_zero, List.set_cons_succ])
                    refine take_at 8 (some 114) (v := undef) rfl rfl (by kernel_rfl) (by kernel_rfl) (by kernel_rfl) (fun _ _ _ h => h) (Or.inr ⟨by rfl, rfl⟩) (by assumption) ?_
                    (try simp only [Act.put, List.setIfInBounds_toArray, List.set_cons_zero, List.set_cons_succ])
                    refine take_at 9 (some 115) (v := ?v6_9) rfl rfl (by kernel_rfl) (by kernel_rfl) (by kernel_rfl) (fun _ _ _ h => h) (Or.inl ⟨by rfl, ?hy6_9⟩) (by assumption) ?rest6_9
                    case hy6_9 => (intro w hSw; (try dsimp only at hSw); go_simp; (try with_reducible rfl))
                    (try simp only [Act.put, List.setIfInBounds_toArray, List.set_cons_zero, List.set_cons_succ])
                    refine take_at 10 (some 116) (v := ?v6_10) rfl rfl (by kernel_rfl) (by kernel_rfl) (by kernel_rfl) (fun _ _ _ h => h) (Or.inl ⟨by rfl, ?hy6_10⟩) (by assumption) ?rest6_10
                    case hy6_10 => (intro w hSw; (try dsimp only at hSw); go_simp; (try with_reducible rfl))
                    (try simp only [Act.put, List.setIfInBounds_toArray, List.set_cons_zero, List.set_cons_succ])
                    refine take_at 11 (some 117) (v := ?v6_11) rfl rfl (by kernel_rfl) (by kernel_rfl) (by kernel_rfl) (fun _ _ _ h => h) (Or.inl ⟨by rfl, ?hy6_11⟩) (by assumption) ?rest6_11
                    case hy6_11 => (intro w hSw; (try dsimp only at hSw); go_simp; (try with_reducible rfl))
                    (try simp only [Act.put, List.setIfInBounds_toArray, List.set_cons_zero, List.set_cons_succ])
                    refine take_at 12 (some 118) (v := ?v6_12) rfl rfl (by kernel_rfl) (by kernel_rfl) (by kernel_rfl) (fun _ _ _ h => h) (Or.inl ⟨by rfl, ?hy6_12⟩) (by assumption) ?rest6_12
                    case hy6_12 => (intro w hSw; (try dsimp only at hSw); go_simp; (try with_reducible rfl))
                    (try simp only [Act.put, List.setIfInBounds_toArray, List.set_cons_zero, List.set_cons_succ])
                    refine take_at 13 (some 119) (v := ?v6_13) rfl rfl (by kernel_rfl) (by kernel_rfl) (by kernel_rfl) (fun _ _ _ h => h) (Or.inl ⟨by rfl, ?hy6_13⟩) (by assumption) ?rest6_13
                    case hy6_13 => (intro w hSw; (try dsimp only at hSw); go_simp; (try with_reducible rfl))
                    (try simp only [Act.put, List.setIfInBounds_toArray, List.set_cons_zero, List.set_cons_succ])
                    refine only_at 14 (some 120) _ rfl rfl rfl (by kernel_rfl) (by rfl) (fun K hK => ?_)
                    go_simp
                    refine (ce2.out _).mono ?_
                    rintro e wn ⟨rfl, hbS⟩
                    (try (with_reducible replace hbS := below_undrew hbS))
                    replace hBn := below_tr hBn hbS
                    refine hK.out _ _ ?_ (fun hHeld => ?_)
                    · first | (with_reducible exact mkS _ hBn) | (with_reducible exact mkS _ (Below.drew hBn))
                    clear hK K
                    (try simp only [Act.put, List.setIfInBounds_toArray, List.set_cons_zero, List.set_cons_succ])
                    refine take_at 15 (some 121) (v := ?v6_15) rfl rfl (by kernel_rfl) (by kernel_rfl) (by kernel_rfl) (fun _ _ _ h => h) (Or.inl ⟨by rfl, ?hy6_15⟩) (by assumption) ?rest6_15
                    case hy6_15 => (intro w hSw; (try dsimp only at hSw); go_simp; (try with_reducible rfl))
                    (try simp only [Act.put, List.setIfInBounds_toArray, List.set_cons_zero, List.set_cons_succ])
                    refine take_at 16 (some 122) (v := ?v6_16) rfl rfl (by kernel_rfl) (by kernel_rfl) (by kernel_rfl) (fun _ _ _ h => h) (Or.inl ⟨by rfl, ?hy6_16⟩) (by assumption) ?rest6_16
                    case hy6_16 => (intro w hSw; (try dsimp only at hSw); go_simp; (try with_reducible rfl))
                    (try simp only [Act.put, List.setIfInBounds_toArray, List.set_cons_zero, List.set_cons_succ])
                    refine take_at 17 (some 123) (v := ?v6_17) rfl rfl (by kernel_rfl) (by kernel_rfl) (by kernel_rfl) (fun _ _ _ h => h) (Or.inl ⟨by rfl, ?hy6_17⟩) (by assumption) ?rest6_17
                    case hy6_17 => (intro w hSw; (try dsimp only at hSw); go_simp; (try with_reducible rfl))
                    (try simp only [Act.put, List.setIfInBounds_toArray, List.set_cons_zero, List.set_cons_succ])
                    refine take_at 18 (some 124) (v := ?v6_18) rfl rfl (by kernel_rfl) (by kernel_rfl) (by kernel_rfl) (fun _ _ _ h => h) (Or.inl ⟨by rfl, ?hy6_18⟩) (by assumption) ?rest6_18
                    case hy6_18 => (intro w hSw; (try dsimp only at hSw); go_simp; (try with_reducible rfl))
                    (try simp only [Act.put, List.setIfInBounds_toArray, List.set_cons_zero, List.set_cons_succ])
                    refine take_at 19 (some 125) (v := ?v6_19) rfl rfl (by kernel_rfl) (by kernel_rfl) (by kernel_rfl) (fun _ _ _ h => h) (Or.inl ⟨by rfl, ?hy6_19⟩) (by assumption) ?rest6_19
                    case hy6_19 => (intro w hSw; (try dsimp only at hSw); go_simp; (try with_reducible rfl))
                    (try simp only [Act.put, List.setIfInBounds_toArray, List.set_cons_zero, List.set_cons_succ])
                    refine take_at 20 (some 126) (v := ?v6_20) rfl rfl (by kernel_rfl) (by kernel_rfl) (by kernel_rfl) (fun _ _ _ h => h) (Or.inl ⟨by rfl, ?hy6_20⟩) (by assumption) ?rest6_20
                    case hy6_20 => (intro w hSw; (try dsimp only at hSw); go_simp; (try with_reducible rfl))
                    (try simp only [Act.put, List.setIfInBounds_toArray, List.set_cons_zero, List.set_cons_succ])
                    refine take_at 21 (some 127) (v := ?v6_21) rfl rfl (by kernel_rfl) (by kernel_rfl) (by kernel_rfl) (fun _ _ _ h => h) (Or.inl ⟨by rfl, ?hy6_21⟩) (by assumption) ?rest6_21
                    case hy6_21 => (intro w hSw; (try dsimp only at hSw); go_simp; (try with_reducible rfl))
                    (try simp only [Act.put, List.setIfInBounds_toArray, List.set_cons_zero, List.set_cons_succ])
                    refine take_at 22 (some 128) (v := ?v6_22) rfl rfl (by kernel_rfl) (by kernel_rfl) (by kernel_rfl) (fun _ _ _ h => h) (Or.inl ⟨by rfl, ?hy6_22⟩) (by assumption) ?rest6_22
                    case hy6_22 => (intro w hSw; (try dsimp only at hSw); go_simp; (try with_reducible rfl))
                    (try simp only [Act.put, List.setIfInBounds_toArray, List.set_cons_zero, List.set_cons_succ])
                    refine take_at 23 (some 129) (v := ?v6_23) rfl rfl (by kernel_rfl) (by kernel_rfl) (by kernel_rfl) (fun _ _ _ h => h) (Or.inl ⟨by rfl, ?hy6_23⟩) (by assumption) ?rest6_23
                    case hy6_23 => (intro w hSw; (try dsimp only at hSw); go_simp; (try with_reducible rfl))
                    (try simp only [Act.put, List.setIfInBounds_toArray, List.set_cons_zero, List.set_cons_succ])
                    refine take_at 24 (some 130) (v := ?v6_24) rfl rfl (by kernel_rfl) (by kernel_rfl) (by kernel_rfl) (fun _ _ _ h => h) (Or.inl ⟨by rfl, ?hy6_24⟩) (by assumption) ?rest6_24
                    case hy6_24 => (intro w hSw; (try dsimp only at hSw); go_simp; (try with_reducible rfl))
                    (try simp only [Act.put, List.setIfInBounds_toArray, List.set_cons_zero, List.set_cons_succ])
                    refine take_at 25 (some 131) (v := ?v6_25) rfl rfl (by kernel_rfl) (by kernel_rfl) (by kernel_rfl) (fun _ _ _ h => h) (Or.inl ⟨by rfl, ?hy6_25⟩) (by assumption) ?rest6_25
                    case hy6_25 => (intro w hSw; (try dsimp only at hSw); go_simp; (try with_reducible rfl))
                    (try simp only [Act.put, List.setIfInBounds_toArray, List.set_cons_zero, List.set_cons_succ])
                    refine take_at 26 (some 6) (v := ?v6_26) rfl rfl (by kernel_rfl) (by kernel_rfl) (by kernel_rfl) (fun _ _ _ h => h) (Or.inl ⟨by rfl, ?hy6_26⟩) (by assumption) ?rest6_26
                    case hy6_26 => (intro w hSw; (try dsimp only at hSw); go_simp; (try with_reducible rfl))
                    (try simp only [Act.put, List.setIfInBounds_toArray, List.set_cons_zero, List.set_cons_succ])
                    refine wpAnyH_done (by kernel_rfl) ?_ _
                    go_wp2_with fail
                    go_ret
                    exact ⟨by simp, below_tr hB hBn⟩
end Go.Proofs.Ytkicilkegeckeaa
