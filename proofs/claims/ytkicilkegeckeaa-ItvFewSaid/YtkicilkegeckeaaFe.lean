/-
  ItvFew's walk.
-/
import Derived.Test.YtkicilkegeckeaaDo
import Derived.Test.YtkicilkegeckeaaOa
import Derived.Test.YtkicilkegeckeaaIh
import Derived.Test.YtkicilkegeckeaaIj
import Derived.RegionTactic
namespace Go.Proofs.Ytkicilkegeckeaa
open Go.RowKit
/-- A new block holds two numbers. -/
def NewCut (W0 : World) (t : TypeId) (x y : Int) (e : Value) (wx : World) : Prop := ∃ (n : Nat) (u v : Int), e = .pointer (some ⟨n, 0, none⟩) ∧ W0.heap.size ≤ n ∧ wx.heap[n]? = some (.cells #[.int .i64 u, .int .i64 v] t (0, 0)) ∧ x = u ∧ y = v ∧ Below W0.heap.size W0 wx
/-- Up to here, is there a pair of which an error is told? -/
def Seen (K A0 B0 B1 x y er : Int) : Prop := (∃ x' y', A0 ≤ x' ∧ x' < x ∧ B0 ≤ y' ∧ y' ≤ B1 ∧ errP K x' y' = er) ∨ (∃ y', B0 ≤ y' ∧ y' < y ∧ errP K x y' = er)
theorem seen_next {K A0 B0 B1 x y er : Int} {o : Bool} {e : Int} (h : o = true ↔ Seen K A0 B0 B1 x y er) (he : errP K x y = e) (h0 : B0 ≤ y) : (o || decide (e = er)) = true ↔ Seen K A0 B0 B1 x (y + 1) er := by
  rw [Bool.or_eq_true, h, decide_eq_true_iff]
  unfold Seen
  constructor
  · rintro ((h1 | ⟨y', g0, g1, g2⟩) | h2)
    · exact .inl h1
    · exact .inr ⟨y', g0, by omega, g2⟩
    · exact .inr ⟨y, h0, by omega, he.trans h2⟩
  · rintro (h1 | ⟨y', g0, g1, g2⟩)
    · exact .inl (.inl h1)
    · by_cases hy : y' = y
      · subst hy; exact .inr (he.symm.trans g2)
      · exact .inl (.inr ⟨y', g0, by omega, g2⟩)
theorem seen_row {K A0 B0 B1 x er : Int} (h0 : A0 ≤ x) : Seen K A0 B0 B1 x (B1 + 1) er ↔ Seen K A0 B0 B1 (x + 1) B0 er := by
  unfold Seen
  constructor
  · rintro (⟨x', y', g0, g1, g2, g3, g4⟩ | ⟨y', g0, g1, g2⟩)
    · exact .inl ⟨x', y', g0, by omega, g2, g3, g4⟩
    · exact .inl ⟨x, y', h0, by omega, g0, by omega, g2⟩
  · rintro (⟨x', y', g0, g1, g2, g3, g4⟩ | ⟨y', g0, g1, _⟩)
    · by_cases hx : x' = x
      · subst hx; exact .inr ⟨y', g2, by omega, g4⟩
      · exact .inl ⟨x', y', g0, by omega, g2, g3, g4⟩
    · omega
theorem seen_none {K A0 B0 B1 er : Int} : ¬ Seen K A0 B0 B1 A0 B0 er := by
  rintro (⟨x', y', g0, g1, _⟩ | ⟨y', g0, g1, _⟩) <;> omega
def FewRel (w : World) (n2 n3 n4 n5 : Nat) (K A0 A1 B0 B1 p0 p1 : Int) (ov dz : Bool) (vo vz vx : Value) (wr : World) : Prop := ∃ (x : Int) (o z : Bool), A0 ≤ x ∧ x ≤ A1 + 1 ∧ vx = .int .i64 x ∧ vo = .bool o ∧ vz = .bool z ∧ (o = true ↔ Seen K A0 B0 B1 x B0 2) ∧ (z = true ↔ Seen K A0 B0 B1 x B0 3) ∧ wr.heap[n2]? = some (.cells #[.int .i64 A0, .int .i64 A1] 23 (0, 0)) ∧ wr.heap[n3]? = some (.cells #[.int .i64 B0, .int .i64 B1] 23 (0, 0)) ∧ wr.heap[n4]? = some (.cells #[.int .i64 p0, .int .i64 p1] 26 (0, 0)) ∧ wr.heap[n5]? = some (.cells #[.bool ov, .bool dz] 39 (0, 0)) ∧ Below w.heap.size w wr
def FewIn (w : World) (n2 n3 n4 n5 : Nat) (K A0 A1 B0 B1 p0 p1 x : Int) (ov dz : Bool) (vo vz vy : Value) (wr : World) : Prop := ∃ (y : Int) (o z : Bool), B0 ≤ y ∧ y ≤ B1 + 1 ∧ vy = .int .i64 y ∧ vo = .bool o ∧ vz = .bool z ∧ (o = true ↔ Seen K A0 B0 B1 x y 2) ∧ (z = true ↔ Seen K A0 B0 B1 x y 3) ∧ wr.heap[n2]? = some (.cells #[.int .i64 A0, .int .i64 A1] 23 (0, 0)) ∧ wr.heap[n3]? = some (.cells #[.int .i64 B0, .int .i64 B1] 23 (0, 0)) ∧ wr.heap[n4]? = some (.cells #[.int .i64 p0, .int .i64 p1] 26 (0, 0)) ∧ wr.heap[n5]? = some (.cells #[.bool ov, .bool dz] 39 (0, 0)) ∧ Below w.heap.size w wr
set_option maxRecDepth 100000 in
set_option maxHeartbeats 16000000 in
theorem few_probe (l0 l1 s0 s1 op K A0 S0 A1 B0 S1 B1 : Int) (w : World) (hk : wrap64 (4 + wrap64 ((IntKind.u64.wrap op).tmod 5)) = K) (k4 : 4 ≤ K) (k8 : K ≤ 8)
    (ea : wrap32 l0 = A0) (eb : wrap32 l1 = B0) (es : (IntKind.u64.wrap s0).tmod 7 = S0) (et : (IntKind.u64.wrap s1).tmod 7 = S1) (s00 : 0 ≤ S0) (s06 : S0 ≤ 6) (s10 : 0 ≤ S1) (s16 : S1 ≤ 6)
    (ra : -2147483648 ≤ A0 ∧ A0 ≤ 2147483647) (rb : -2147483648 ≤ B0 ∧ B0 ≤ 2147483647) (hA : (if 2147483647 < A0 + S0 then 2147483647 else A0 + S0) = A1) (hB1 : (if 2147483647 < B0 + S1 then 2147483647 else B0 + S1) = B1)
    (qa : A0 ≤ A1 ∧ A1 ≤ 2147483647) (qb : B0 ≤ B1 ∧ B1 ≤ 2147483647) :
    Calls Try.prog 5 #[.agg #[.int .i64 l0, .int .i64 l1], .agg #[.int .i64 s0, .int .i64 s1], .int .i64 op] w fun e w' => e = .returned (.bool true) ∧ Below w.heap.size w w' := by
  replace hk := Lib.hid hk
  have kk := Lib.hid (And.intro k4 k8)
  clear k4 k8
  replace ea := Lib.hid ea
  replace eb := Lib.hid eb
  replace es := Lib.hid es
  replace et := Lib.hid et
  replace hA := Lib.hid hA
  replace hB1 := Lib.hid hB1
  replace ra := Lib.hid ra
  replace rb := Lib.hid rb
  replace qa := Lib.hid qa
  replace qb := Lib.hid qb
  have sb := Lib.hid (And.intro (And.intro s00 s06) (And.intro s10 s16))
  clear s00 s06 s10 s16
  go_enter Try.func5, Try.ntmps5
  go_upto_region 1 with fail
  refine wp_world (fun W => W.heap[w.heap.size]? = some (.cells #[.int .i64 l0, .int .i64 l1] 47 (0, 0)) ∧ W.heap[w.heap.size + 1]? = some (.cells #[.int .i64 s0, .int .i64 s1] 47 (0, 0)) ∧ Below w.heap.size w W) ⟨blkUp (blkA _ _ (by first | rfl | simp only [World.size_alloc])) _, blkA _ _ (by first | rfl | simp only [World.size_alloc]), ((Below.refl _ _).alloc (by first | exact Nat.le_refl _ | (simp only [World.size_alloc]; omega)) _).alloc (by first | exact Nat.le_refl _ | (simp only [World.size_alloc]; omega)) _⟩ ?_
  rintro w1 ⟨k0, k1, hB⟩
  have r0 := row_of k0
  have f0 := frozen_of k0
  have z0 := blk_lt k0
  have r1 := row_of k1
  have f1 := frozen_of k1
  have z1 := blk_lt k1
  clear r0 f0 z0 r1 f1 z1
  go_cut [7] from 21 to 182 (fun e7 wx => e7 = .int .i64 K ∧ w1 = wx)
  case first =>
    go_wp2_with fail
    go_meet
    exact ⟨by rw [hk.out], rfl⟩
  case rest =>
    obtain ⟨rfl, rfl⟩ := hcut
    clear hk
    go_upto_region 2 with fail
    have r0 := row_of k0
    have r1 := row_of k1
    go_cut [8] from 21 to 182 (fun e8 wx => NewCut w1 23 A0 (A0 + S0) e8 wx)
    case first =>
      as_aux_lemma =>
        go_wp2_with fail
        go_meet
        have q1 := ea.out
        have q2 := es.out
        have q3 := sb.out
        subst q1 q2
        refine ⟨_, _, _, rfl, Nat.le_refl _, blkA _ _ rfl, ?_, ?_, (Below.refl _ _).alloc (Nat.le_refl _) _⟩
        · first | rfl | (unfold wrap64 wrap32; omega)
        · unfold wrap64 wrap32 at *; omega
    case rest =>
      as_aux_lemma =>
        clear r0 r1
        obtain ⟨n2, _, _, rfl, hn2, kn, rfl, rfl, hb⟩ := hcut
        have hv0_0 := blk_lt k0
        have hv0_1 := blk_lt k1
        replace k0 := blk_keep hb k0
        replace k1 := blk_keep hb k1
        have k2 := kn
        replace hB := hB.trans (hb.mono hB.size)
        clear hb kn
        go_upto_region 3 with fail
        refine wp_world (fun W => W.heap[w.heap.size]? = some (.cells #[.int .i64 l0, .int .i64 l1] 47 (0, 0)) ∧ W.heap[w.heap.size + 1]? = some (.cells #[.int .i64 s0, .int .i64 s1] 47 (0, 0)) ∧ W.heap[n2]? = some (.cells #[.int .i64 A0, .int .i64 (A0 + S0)] 23 (0, 0)) ∧ Below w.heap.size w W) ⟨k0, k1, k2, hB⟩ ?_
        clear hB k0 k1 k2
        rintro w3 ⟨k0, k1, k2, hB⟩
        go_upto_region 3 with fail
        have r0 := row_of k0
        have r1 := row_of k1
        go_cut [9] from 21 to 182 (fun e8 wx => NewCut w3 23 B0 (B0 + S1) e8 wx)
        case first =>
          as_aux_lemma =>
            go_wp2_with fail
            go_meet
            have q1 := eb.out
            have q2 := et.out
            have q3 := sb.out
            subst q1 q2
            refine ⟨_, _, _, rfl, Nat.le_refl _, blkA _ _ rfl, ?_, ?_, (Below.refl _ _).alloc (Nat.le_refl _) _⟩
            · first | rfl | (unfold wrap64 wrap32; omega)
            · unfold wrap64 wrap32 at *; omega
        case rest =>
          as_aux_lemma =>
            clear r0 r1
            obtain ⟨n3, _, _, rfl, hn3, kn, rfl, rfl, hb⟩ := hcut
            have hv1_0 := blk_lt k0
            have hv1_1 := blk_lt k1
            have hv1_2 := blk_lt k2
            replace k0 := blk_keep hb k0
            replace k1 := blk_keep hb k1
            replace k2 := blk_keep hb k2
            have k3 := kn
            replace hB := hB.trans (hb.mono hB.size)
            clear hb kn
            go_upto_region 4 with fail
            refine wp_world (fun W => W.heap[w.heap.size]? = some (.cells #[.int .i64 l0, .int .i64 l1] 47 (0, 0)) ∧ W.heap[w.heap.size + 1]? = some (.cells #[.int .i64 s0, .int .i64 s1] 47 (0, 0)) ∧ W.heap[n2]? = some (.cells #[.int .i64 A0, .int .i64 (A0 + S0)] 23 (0, 0)) ∧ W.heap[n3]? = some (.cells #[.int .i64 B0, .int .i64 (B0 + S1)] 23 (0, 0)) ∧ Below w.heap.size w W) ⟨k0, k1, k2, k3, hB⟩ ?_
            clear hB k0 k1 k2 k3
            rintro w5 ⟨k0, k1, k2, k3, hB⟩
            clear k0 k1
            have hne : n2 ≠ n3 := by omega
            go_cut [] from 56 to 182 (fun wx => OldCut w n2 n3 23 A0 A1 B0 B1 wx)
            case first =>
              as_aux_lemma =>
                have q1 := hA.out
                have q2 := hB1.out
                have r2 := row_of k2
                have f2 := frozen_of k2
                have z2 := blk_lt k2
                have r3 := row_of k3
                have f3 := frozen_of k3
                have z3 := blk_lt k3
                go_region
                all_goals
                  go_wp2_with fail
                  go_meet
                  first | exact ⟨blk_set (setb k2) hne, setb (blk_set k3 hne.symm), (hB.setCell (p := ⟨n2, 1, none⟩) (by show w.heap.size ≤ n2; omega) _).setCell (p := ⟨n3, 1, none⟩) (by show w.heap.size ≤ n3; omega) _⟩ | exact ⟨blk_set (setb k2) hne, setb (blk_set k3 hne.symm), ((hB.setCell (p := ⟨n2, 1, none⟩) (by show w.heap.size ≤ n2; omega) _).setCell (p := ⟨n3, 1, none⟩) (by show w.heap.size ≤ n3; omega) _).drew⟩
            case rest =>
              as_aux_lemma =>
                clear k2 k3 hB
                obtain ⟨k2, k3, hB⟩ := hcut
                go_upto_region 5 with fail
                refine wp_world (fun W => W.heap[n2]? = some (.cells #[.int .i64 A0, .int .i64 A1] 23 (0, 0)) ∧ W.heap[n3]? = some (.cells #[.int .i64 B0, .int .i64 B1] 23 (0, 0)) ∧ Below w.heap.size w W) ⟨k2, k3, hB⟩ ?_
                clear hB k2 k3
                rintro w7 ⟨k2, k3, hB⟩
                clear hA hB1 ea eb es et sb
                obtain ⟨ra1, ra2⟩ := ra.out
                obtain ⟨rb1, rb2⟩ := rb.out
                obtain ⟨qa1, qa2⟩ := qa.out
                obtain ⟨qb1, qb2⟩ := qb.out
                obtain ⟨p0, p1, ov, dz, cd, hd⟩ := do_ok A0 A1 B0 B1 (by omega) (by omega) (by omega) (by omega) (by omega) (by omega) K kk.out.1 kk.out.2
                replace cd := Lib.hid cd
                replace hd := Lib.hid hd
                clear ra1 ra2 rb1 rb2 qa1 qa2 qb1 qb2
                go_upto_region 5 with fail
                have mkS := four_of k2 k3
                go_cut [10, 11] from 65 to 182 (fun e5 e6 wx => TwoCut w7 26 39 (.int .i64 p0) (.int .i64 p1) (.bool ov) (.bool dz) e5 e6 wx)
                case first =>
                  as_aux_lemma =>
                    have hBn := Below.refl w7.heap.size w7
                    have zz := hB
                    have zb2 := blk_lt k2
                    have zb3 := blk_lt k3
                    clear hB k2 k3
                    go_region_held3 (fun W => W.cell? ⟨n2, 0, none⟩ = some (.int .i64 A0) ∧ W.cell? ⟨n2, 1, none⟩ = some (.int .i64 A1) ∧ W.cell? ⟨n3, 0, none⟩ = some (.int .i64 B0) ∧ W.cell? ⟨n3, 1, none⟩ = some (.int .i64 B1))
                        (first | (with_reducible exact mkS _ (hBn)) | (with_reducible exact mkS _ (below_al hBn _)) | (with_reducible exact mkS _ (below_al (below_al hBn _) _)) | (with_reducible exact mkS _ (below_put hBn zx)) | (with_reducible exact mkS _ (below_al (below_put hBn zx) _)) | (with_reducible exact mkS _ (below_put hBn zy)) | (with_reducible exact mkS _ (below_al (below_put hBn zy) _)) | (with_reducible exact mkS _ (below_put (below_put hBn zx) zy)) | (with_reducible exact mkS _ (below_put (below_put hBn zy) zx)) | (with_reducible exact mkS _ (Below.drew (hBn))) | (with_reducible exact mkS _ (Below.drew (below_al hBn _))) | (with_reducible exact mkS _ (Below.drew (below_al (below_al hBn _) _))))
                        (first
                          | (go_at_call 14; refine (to_any _ _ _).mono ?_; rintro e wn ⟨rfl, hbS⟩; (try (with_reducible replace hbS := below_undrew hbS)); (with_reducible first
                            | (have kx := blkT2a hbS; have ky := blkT2b hbS; have zx := hBn.size; have zy := Nat.le_succ_of_le hBn.size; replace hBn := below_tr (below_al (below_al hBn _) _) hbS)
                            | (have ky := blkT1 hbS; have zy := hBn.size; have nxy := Nat.ne_of_lt (blk_lt kx); replace kx := blk_keep hbS (blkUp kx _); replace hBn := below_tr (below_al hBn _) hbS)
                            | (have kx := blkT1 hbS; have zx := hBn.size; replace hBn := below_tr (below_al hBn _) hbS)
                            | (replace kx := blk_keep hbS kx; replace ky := blk_keep hbS ky; replace hBn := below_tr hBn hbS)
                            | (replace kx := blk_keep hbS kx; replace hBn := below_tr hBn hbS)
                            | (replace hBn := below_tr hBn hbS)); (try (have rx := row_of kx; have fx := frozen_of kx; have lx := blk_lt kx)); (try (have ry := row_of ky; have fy := frozen_of ky; have ly := blk_lt ky)))
                          | (go_at_call 21; refine (cd.out _).mono ?_; rintro e wn ⟨rfl, hbS⟩; (try (with_reducible replace hbS := below_undrew hbS)); (with_reducible first
                            | (have kx := blkT2a hbS; have ky := blkT2b hbS; have zx := hBn.size; have zy := Nat.le_succ_of_le hBn.size; replace hBn := below_tr (below_al (below_al hBn _) _) hbS)
                            | (have ky := blkT1 hbS; have zy := hBn.size; have nxy := Nat.ne_of_lt (blk_lt kx); replace kx := blk_keep hbS (blkUp kx _); replace hBn := below_tr (below_al hBn _) hbS)
                            | (have kx := blkT1 hbS; have zx := hBn.size; replace hBn := below_tr (below_al hBn _) hbS)
                            | (replace kx := blk_keep hbS kx; replace ky := blk_keep hbS ky; replace hBn := below_tr hBn hbS)
                            | (replace kx := blk_keep hbS kx; replace hBn := below_tr hBn hbS)
                            | (replace hBn := below_tr hBn hbS)); (try (have rx := row_of kx; have fx := frozen_of kx; have lx := blk_lt kx)); (try (have ry := row_of ky; have fy := frozen_of ky; have ly := blk_lt ky))))
                    all_goals
                      go_wp2_with fail
                      go_meet
                      refine ⟨_, _, rfl, rfl, ?_, ?_, ?_, ?_, ?_, ?_⟩
                      · first | exact nxy | exact nxy.symm | omega
                      · first | exact zx | exact zy | exact hBn.size | exact Nat.le_succ_of_le hBn.size | omega
                      · first | exact zy | exact zx | exact hBn.size | exact Nat.le_succ_of_le hBn.size | omega
                      · first | (with_reducible exact blkP _ _ _ _ _) | (with_reducible exact blkA _ _ rfl) | (with_reducible exact blkUp (blkA _ _ rfl) _) | (with_reducible exact blkA _ _ (by simp only [World.size_alloc])) | (with_reducible exact setab kx) | (with_reducible exact setno (setab kx) (by omega)) | (with_reducible exact setab (setno kx (by omega))) | (with_reducible exact blkUp (setab kx) _) | (with_reducible exact blkUp (setno (setab kx) (by omega)) _) | (with_reducible exact setab ky) | (with_reducible exact setno (setab ky) (by omega)) | (with_reducible exact setab (setno ky (by omega))) | (with_reducible exact blkUp (setab ky) _) | (with_reducible exact blkUp (setno (setab ky) (by omega)) _)
                      · first | (with_reducible exact blkP _ _ _ _ _) | (with_reducible exact blkA _ _ rfl) | (with_reducible exact blkUp (blkA _ _ rfl) _) | (with_reducible exact blkA _ _ (by simp only [World.size_alloc])) | (with_reducible exact setab kx) | (with_reducible exact setno (setab kx) (by omega)) | (with_reducible exact setab (setno kx (by omega))) | (with_reducible exact blkUp (setab kx) _) | (with_reducible exact blkUp (setno (setab kx) (by omega)) _) | (with_reducible exact setab ky) | (with_reducible exact setno (setab ky) (by omega)) | (with_reducible exact setab (setno ky (by omega))) | (with_reducible exact blkUp (setab ky) _) | (with_reducible exact blkUp (setno (setab ky) (by omega)) _)
                      · first | (with_reducible exact hBn) | (with_reducible exact below_al hBn _) | (with_reducible exact below_al (below_al hBn _) _) | (with_reducible exact below_put hBn zx) | (with_reducible exact below_al (below_put hBn zx) _) | (with_reducible exact below_put hBn zy) | (with_reducible exact below_al (below_put hBn zy) _) | (with_reducible exact below_put (below_put hBn zx) zy) | (with_reducible exact below_put (below_put hBn zy) zx) | (with_reducible exact Below.drew (hBn)) | (with_reducible exact Below.drew (below_al hBn _)) | (with_reducible exact Below.drew (below_al (below_al hBn _) _))
                case rest =>
                  as_aux_lemma =>
                    obtain ⟨g5a, g5b, rfl, rfl, hne5, hla5, hlb5, kA, kB, hb⟩ := hcut
                    have hv5_2 := blk_lt k2
                    have hv5_3 := blk_lt k3
                    replace k2 := blk_keep hb k2
                    replace k3 := blk_keep hb k3
                    have k4 := kA
                    have k5 := kB
                    replace hB := hB.trans (hb.mono hB.size)
                    clear hb kA kB mkS
                    go_upto_region 7 with fail
                    have r2 := row_of k2
                    have f2 := frozen_of k2
                    have z2 := blk_lt k2
                    have r3 := row_of k3
                    have f3 := frozen_of k3
                    have z3 := blk_lt k3
                    have r4 := row_of k4
                    have f4 := frozen_of k4
                    have z4 := blk_lt k4
                    have r5 := row_of k5
                    have f5 := frozen_of k5
                    have z5 := blk_lt k5
                    go_wp2_with fail
                    clear r2 f2 z2 r3 f3 z3 r4 f4 z4 r5 f5 z5
                    go_loopw [12, 13, 14] (fun vo vz vx wr => FewRel w n2 n3 g5a g5b K A0 A1 B0 B1 p0 p1 ov dz vo vz vx wr) (fun _ _ i _ => (A1 + 1 - intOf i).toNat)
                    case atStart => exact ⟨A0, false, false, Int.le_refl _, by have := qa.out; omega, rfl, rfl, rfl, by simp [seen_none], by simp [seen_none], k2, k3, k4, k5, hB⟩
                    case round =>
                      clear hB k2 k3 k4 k5
                      obtain ⟨x, o, z, hx0, hx1, rfl, rfl, rfl, ho, hz, k2, k3, k4, k5, hB⟩ := hrel
                      replace ho := Lib.hid ho
                      replace hz := Lib.hid hz
                      refine wp_world (fun W => W.heap[n2]? = some (.cells #[.int .i64 A0, .int .i64 A1] 23 (0, 0)) ∧ W.heap[n3]? = some (.cells #[.int .i64 B0, .int .i64 B1] 23 (0, 0)) ∧ W.heap[g5a]? = some (.cells #[.int .i64 p0, .int .i64 p1] 26 (0, 0)) ∧ W.heap[g5b]? = some (.cells #[.bool ov, .bool dz] 39 (0, 0)) ∧ Below w.heap.size w W) ⟨k2, k3, k4, k5, hB⟩ ?_
                      clear hB k2 k3 k4 k5
                      rintro w20 ⟨k2, k3, k4, k5, hB⟩
                      obtain ⟨ra1, ra2⟩ := ra.out
                      obtain ⟨rb1, rb2⟩ := rb.out
                      obtain ⟨qa1, qa2⟩ := qa.out
                      obtain ⟨qb1, qb2⟩ := qb.out
                      by_cases hlt : x ≤ A1
                      · have hd1 := decide_eq_true hlt
                        have r2 := row_of k2
                        have f2 := frozen_of k2
                        have z2 := blk_lt k2
                        have r3 := row_of k3
                        have f3 := frozen_of k3
                        have z3 := blk_lt k3
                        have r4 := row_of k4
                        have f4 := frozen_of k4
                        have z4 := blk_lt k4
                        have r5 := row_of k5
                        have f5 := frozen_of k5
                        have z5 := blk_lt k5
                        go_wp2_with fail
                        clear r2 f2 z2 r3 f3 z3 r4 f4 z4 r5 f5 z5
                        clear hd1
                        go_loopw [12, 13, 15] (fun vo vz vy wr => FewIn w n2 n3 g5a g5b K A0 A1 B0 B1 p0 p1 x ov dz vo vz vy wr) (fun _ _ i _ => (B1 + 1 - intOf i).toNat)
                        case atStart => exact ⟨B0, o, z, Int.le_refl _, by omega, rfl, rfl, rfl, ho.out, hz.out, k2, k3, k4, k5, hB⟩
                        case round =>
                          clear hB k2 k3 k4 k5 ho hz
                          obtain ⟨y, o, z, hy0, hy1, rfl, rfl, rfl, ho, hz, k2, k3, k4, k5, hB⟩ := hrel
                          replace ho := Lib.hid ho
                          replace hz := Lib.hid hz
                          refine wp_world (fun W => W.heap[n2]? = some (.cells #[.int .i64 A0, .int .i64 A1] 23 (0, 0)) ∧ W.heap[n3]? = some (.cells #[.int .i64 B0, .int .i64 B1] 23 (0, 0)) ∧ W.heap[g5a]? = some (.cells #[.int .i64 p0, .int .i64 p1] 26 (0, 0)) ∧ W.heap[g5b]? = some (.cells #[.bool ov, .bool dz] 39 (0, 0)) ∧ Below w.heap.size w W) ⟨k2, k3, k4, k5, hB⟩ ?_
                          clear hB k2 k3 k4 k5
                          rintro w30 ⟨k2, k3, k4, k5, hB⟩
                          by_cases hly : y ≤ B1
                          · have hd1 := decide_eq_true hly
                            have co := Lib.hid (fun W => one_any K x y W kk.out.1 kk.out.2 (by omega) (by omega) (by omega) (by omega))
                            have hh := Lib.hid (hd.out.has x y hx0 hlt hy0 hly)
                            have hev := Lib.hid (errP_or K x y)
                            have hone := Lib.hid (show oneP K x y = if errP K x y = 0 then valP K x y else 0 from rfl)
                            obtain ⟨n, er, hn, her⟩ : ∃ n er, oneP K x y = n ∧ errP K x y = er := ⟨_, _, rfl, rfl⟩
                            have co2 : ∀ W, Calls Try.prog 22 #[.int .i64 K, .int .i64 x, .int .i64 y] W fun e w' => e = .returned (.tuple #[.int .i64 n, .int .i64 er]) ∧ W = w' := fun W => by have t := co.out W; rw [hn, her] at t; exact t
                            replace co2 := Lib.hid co2
                            clear co
                            have arms : (er = 0 ∧ p0 ≤ n ∧ n ≤ p1) ∨ er = 2 ∨ er = 3 := by
                              have v := hev.out
                              rw [her] at v
                              have ho2 := hh.out
                              rw [her] at ho2
                              have h1 := hone.out
                              rw [hn, her] at h1
                              rcases v with ⟨h, _⟩ | ⟨h, _⟩ | ⟨h, _⟩
                              · exact .inr (.inr h)
                              · exact .inr (.inl h)
                              · rw [if_pos h] at h1
                                rw [h1]
                                exact .inl ⟨h, ho2 h⟩
                            replace arms := Lib.hid arms
                            have so := Lib.hid (seen_next ho.out her hy0)
                            have sz := Lib.hid (seen_next hz.out her hy0)
                            clear hn her hh hev hone ho hz
                            have r2 := row_of k2
                            have f2 := frozen_of k2
                            have z2 := blk_lt k2
                            have r3 := row_of k3
                            have f3 := frozen_of k3
                            have z3 := blk_lt k3
                            have r4 := row_of k4
                            have f4 := frozen_of k4
                            have z4 := blk_lt k4
                            have r5 := row_of k5
                            have f5 := frozen_of k5
                            have z5 := blk_lt k5
                            go_upto_region 13 with fail
                            clear hd1
                            go_wp2_with fail
                            refine (co2.out _).mono ?_
                            rintro e wn ⟨rfl, rfl⟩
                            go_upto_region 14 with fail
                            go_cut [12, 13] from 96 to 105 (fun e12 e13 wx => e12 = .bool (o || decide (er = 2)) ∧ e13 = .bool (z || decide (er = 3)) ∧ w30 = wx)
                            case first =>
                              rcases arms.out with ⟨rfl, _⟩ | rfl | rfl
                              all_goals cases o
                              all_goals cases z
                              all_goals
                                go_wp2_with fail
                                go_meet
                                exact ⟨by simp, by simp, rfl⟩
                            case rest =>
                              obtain ⟨rfl, rfl, rfl⟩ := hcut
                              generalize ho2 : (o || decide (er = 2)) = oo at *
                              generalize hz2 : (z || decide (er = 3)) = zz at *
                              clear ho2 hz2
                              rcases arms.out with ⟨rfl, hz⟩ | rfl | rfl
                              · clear arms
                                have cz : ∀ W, Calls Try.prog 23 #[.agg #[.int .i64 p0, .int .i64 p1], .int .i64 n] W fun e w' => e = .returned (.bool true) ∧ Below W.heap.size W w' := fun W => by have t := has_any p0 p1 n W; rw [decide_eq_true hz] at t; exact t
                                replace cz := Lib.hid cz
                                clear hz
                                go_wp2_with fail
                                refine (cz.out _).mono ?_
                                rintro e w31 ⟨rfl, hb⟩
                                replace k2 := blk_keep hb k2
                                replace k3 := blk_keep hb k3
                                replace k4 := blk_keep hb k4
                                replace k5 := blk_keep hb k5
                                replace hB := hB.trans (hb.mono hB.size)
                                clear r2 f2 z2 r3 f3 z3 r4 f4 z4 r5 f5 z5
                                clear hb
                                have r2 := row_of k2
                                have f2 := frozen_of k2
                                have z2 := blk_lt k2
                                have r3 := row_of k3
                                have f3 := frozen_of k3
                                have z3 := blk_lt k3
                                have r4 := row_of k4
                                have f4 := frozen_of k4
                                have z4 := blk_lt k4
                                have r5 := row_of k5
                                have f5 := frozen_of k5
                                have z5 := blk_lt k5
                                go_upto_region 12 with fail
                                clear r2 f2 z2 r3 f3 z3 r4 f4 z4 r5 f5 z5
                                go_wp2_with fail
                                exact ⟨⟨y + 1, oo, zz, by omega, by omega, rfl, rfl, rfl, so.out, sz.out, k2, k3, k4, k5, hB⟩, by simp [intOf]; omega⟩
                              · clear arms
                                go_upto_region 12 with fail
                                clear r2 f2 z2 r3 f3 z3 r4 f4 z4 r5 f5 z5
                                go_wp2_with fail
                                exact ⟨⟨y + 1, oo, zz, by omega, by omega, rfl, rfl, rfl, so.out, sz.out, k2, k3, k4, k5, hB⟩, by simp [intOf]; omega⟩
                              · clear arms
                                go_upto_region 12 with fail
                                clear r2 f2 z2 r3 f3 z3 r4 f4 z4 r5 f5 z5
                                go_wp2_with fail
                                exact ⟨⟨y + 1, oo, zz, by omega, by omega, rfl, rfl, rfl, so.out, sz.out, k2, k3, k4, k5, hB⟩, by simp [intOf]; omega⟩
                          · have hd1 := decide_eq_false hly
                            obtain rfl : y = B1 + 1 := by omega
                            have so := Lib.hid (ho.out.trans (seen_row hx0))
                            have sz := Lib.hid (hz.out.trans (seen_row hx0))
                            clear ho hz
                            have r2 := row_of k2
                            have f2 := frozen_of k2
                            have z2 := blk_lt k2
                            have r3 := row_of k3
                            have f3 := frozen_of k3
                            have z3 := blk_lt k3
                            have r4 := row_of k4
                            have f4 := frozen_of k4
                            have z4 := blk_lt k4
                            have r5 := row_of k5
                            have f5 := frozen_of k5
                            have z5 := blk_lt k5
                            go_upto_region 9 with fail
                            clear r2 f2 z2 r3 f3 z3 r4 f4 z4 r5 f5 z5
                            clear hd1
                            go_wp2_with fail
                            exact ⟨⟨x + 1, o, z, by omega, by omega, rfl, rfl, rfl, so.out, sz.out, k2, k3, k4, k5, hB⟩, by simp [intOf]; omega⟩
                      · have hd1 := decide_eq_false hlt
                        obtain rfl : x = A1 + 1 := by omega
                        have sO : o = true → ov = true := fun h => by
                          rcases ho.out.1 h with ⟨x', y', g0, g1, g2, g3, g4⟩ | ⟨y', g0, g1, _⟩
                          · exact hd.out.over x' y' g0 (by omega) g2 g3 g4
                          · omega
                        have sZ : dz = z := by
                          have t := hd.out.zero
                          cases hzz : z with
                          | true =>
                            rcases hz.out.1 hzz with ⟨x', y', g0, g1, g2, g3, g4⟩ | ⟨y', g0, g1, _⟩
                            · have v := errP_or K x' y'
                              rw [t]; simp; omega
                            · omega
                          | false =>
                            cases hdd : dz with
                            | false => rfl
                            | true =>
                              rw [hdd] at t
                              have t2 := t.symm
                              simp at t2
                              have u : z = true := hz.out.2 (.inl ⟨A0, 0, by omega, by omega, by omega, by omega, by have v := errP_or K A0 0; omega⟩)
                              rw [hzz] at u
                              cases u
                        have sU : K ≤ 5 ∨ (A0 = A1 ∧ B0 = B1) → ov = o := fun h => by
                          cases hoo : o with
                          | true => exact sO hoo
                          | false =>
                            cases hvv : ov with
                            | false => rfl
                            | true =>
                              obtain ⟨x', y', g0, g1, g2, g3, g4⟩ := hd.out.sure h hvv
                              have u : o = true := ho.out.2 (.inl ⟨x', y', g0, by omega, g2, g3, g4⟩)
                              rw [hoo] at u
                              cases u
                        subst sZ
                        replace sO := Lib.hid sO
                        replace sU := Lib.hid sU
                        clear ho hz hlt hx0 hx1
                        have r2 := row_of k2
                        have f2 := frozen_of k2
                        have z2 := blk_lt k2
                        have r3 := row_of k3
                        have f3 := frozen_of k3
                        have z3 := blk_lt k3
                        have r4 := row_of k4
                        have f4 := frozen_of k4
                        have z4 := blk_lt k4
                        have r5 := row_of k5
                        have f5 := frozen_of k5
                        have z5 := blk_lt k5
                        go_upto_region 17 with fail
                        clear hd1
                        go_cut [18] from 114 to 182 (fun e18 wx => e18 = .bool (decide (A0 = A1 ∧ B0 = B1)) ∧ w20 = wx)
                        case first =>
                          by_cases ha : A0 = A1
                          · have t1 : (A0 == A1) = true := by rw [beq_iff_eq]; exact ha
                            by_cases hb : B0 = B1
                            · have t2 : (B0 == B1) = true := by rw [beq_iff_eq]; exact hb
                              go_wp2_with fail
                              go_meet
                              exact ⟨by simp [ha, hb], rfl⟩
                            · have t2 : (B0 == B1) = false := by rw [beq_eq_false_iff_ne]; exact hb
                              go_wp2_with fail
                              go_meet
                              exact ⟨by simp [hb], rfl⟩
                          · have t1 : (A0 == A1) = false := by rw [beq_eq_false_iff_ne]; exact ha
                            go_wp2_with fail
                            go_meet
                            exact ⟨by simp [ha], rfl⟩
                        case rest =>
                          as_aux_lemma =>
                            obtain ⟨rfl, rfl⟩ := hcut
                            by_cases hal : A0 = A1 ∧ B0 = B1
                            · rw [decide_eq_true hal]
                              have hL := Lib.hid (hd.out.alone hal)
                              have co := Lib.hid (fun W => one_any K A0 B0 W kk.out.1 kk.out.2 (by omega) (by omega) (by omega) (by omega))
                              have hev := Lib.hid (errP_or K A0 B0)
                              have hone := Lib.hid (show oneP K A0 B0 = if errP K A0 B0 = 0 then valP K A0 B0 else 0 from rfl)
                              have hnr := Lib.hid (hd.out.norm)
                              obtain ⟨n, er, hn, her⟩ : ∃ n er, oneP K A0 B0 = n ∧ errP K A0 B0 = er := ⟨_, _, rfl, rfl⟩
                              have co2 : ∀ W, Calls Try.prog 22 #[.int .i64 K, .int .i64 A0, .int .i64 B0] W fun e w' => e = .returned (.tuple #[.int .i64 n, .int .i64 er]) ∧ W = w' := fun W => by have t := co.out W; rw [hn, her] at t; exact t
                              replace co2 := Lib.hid co2
                              clear co
                              have arms : (er = 0 ∧ p0 = n ∧ p1 = n ∧ -2147483648 ≤ n ∧ n ≤ 2147483647) ∨ (er = 2 ∧ p0 = 1 ∧ p1 = 0) ∨ (er = 3 ∧ p0 = 1 ∧ p1 = 0) := by
                                have v := hev.out
                                rw [her] at v
                                have hl := hL.out
                                rw [her] at hl
                                have h1 := hone.out
                                rw [hn, her] at h1
                                rcases v with ⟨h, _⟩ | ⟨h, _⟩ | ⟨h, _⟩
                                · exact .inr (.inr ⟨h, hl.1 (by omega)⟩)
                                · exact .inr (.inl ⟨h, hl.1 (by omega)⟩)
                                · rw [if_pos h] at h1
                                  have u := hl.2 h
                                  rw [h1]
                                  exact .inl ⟨h, u.1, u.2, by omega, by omega⟩
                              replace arms := Lib.hid arms
                              replace hal := Lib.hid hal
                              clear hn her hL hev hone hnr hd cd
                              go_upto_if 126 with fail
                              go_cut [] from 127 to 152 (fun wx => wx.heap[g5b]? = some (.cells #[.bool ov, .bool dz] 39 (0, 0)) ∧ Below w.heap.size w wx)
                              case first =>
                                as_aux_lemma =>
                                  go_wp2_with fail
                                  refine (co2.out _).mono ?_
                                  rintro e wn ⟨rfl, rfl⟩
                                  rcases arms.out with ⟨rfl, rfl, rfl, g0, g1⟩ | ⟨rfl, rfl, rfl⟩ | ⟨rfl, rfl, rfl⟩
                                  · have c4 := Lib.hid (fun W => const_in p1 W g0 g1)
                                    go_upto_region 20 with fail
                                    clear r2 f2 z2 r3 f3 z3 r4 f4 z4 r5 f5 z5
                                    have mkS : ∀ W, Below w20.heap.size w20 W → (fun W => W.cell? ⟨g5a, 0, none⟩ = some (.int .i64 p1) ∧ W.cell? ⟨g5a, 1, none⟩ = some (.int .i64 p1)) W := fun W h => ⟨row_of (blk_keep h k4) 0, row_of (blk_keep h k4) 1⟩
                                    dsimp only at mkS
                                    have hBn := Below.refl w20.heap.size w20
                                    have q5 := k5
                                    clear k2 k3 k4 k5
                                    refine wp_region_held_drew (S := fun W => W.cell? ⟨g5a, 0, none⟩ = some (.int .i64 p1) ∧ W.cell? ⟨g5a, 1, none⟩ = some (.int .i64 p1)) (by kernel_rfl) ?_ (fun hHeld => ?_)
                                    · first | (with_reducible exact mkS _ hBn) | (with_reducible exact mkS _ (Below.drew hBn))
                                    refine take_at 0 (some 136) (v := ?v1_0) rfl rfl (by kernel_rfl) (by kernel_rfl) (by kernel_rfl) (fun _ _ _ h => h) (Or.inl ⟨by rfl, ?hy1_0⟩) (by assumption) ?rest1_0
                                    case hy1_0 => (intro w hSw; (try dsimp only at hSw); go_simp; (try with_reducible rfl))
                                    (try simp only [Act.put, List.setIfInBounds_toArray, List.set_cons_zero, List.set_cons_succ])
                                    refine take_at 1 (some 137) (v := ?v1_1) rfl rfl (by kernel_rfl) (by kernel_rfl) (by kernel_rfl) (fun _ _ _ h => h) (Or.inl ⟨by rfl, ?hy1_1⟩) (by assumption) ?rest1_1
                                    case hy1_1 => (intro w hSw; (try dsimp only at hSw); go_simp; (try with_reducible rfl))
                                    (try simp only [Act.put, List.setIfInBounds_toArray, List.set_cons_zero, List.set_cons_succ])
                                    refine take_at 2 (some 138) (v := ?v1_2) rfl rfl (by kernel_rfl) (by kernel_rfl) (by kernel_rfl) (fun _ _ _ h => h) (Or.inl ⟨by rfl, ?hy1_2⟩) (by assumption) ?rest1_2
                                    case hy1_2 => (intro w hSw; (try dsimp only at hSw); go_simp; (try with_reducible rfl))
                                    (try simp only [Act.put, List.setIfInBounds_toArray, List.set_cons_zero, List.set_cons_succ])
                                    refine take_at 3 (some 139) (v := undef) rfl rfl (by kernel_rfl) (by kernel_rfl) (by kernel_rfl) (fun _ _ _ h => h) (Or.inr ⟨by rfl, rfl⟩) (by assumption) ?_
                                    (try simp only [Act.put, List.setIfInBounds_toArray, List.set_cons_zero, List.set_cons_succ])
                                    refine take_at 4 (some 140) (v := undef) rfl rfl (by kernel_rfl) (by kernel_rfl) (by kernel_rfl) (fun _ _ _ h => h) (Or.inr ⟨by rfl, rfl⟩) (by assumption) ?_
                                    (try simp only [Act.put, List.setIfInBounds_toArray, List.set_cons_zero, List.set_cons_succ])
                                    refine take_at 5 (some 141) (v := undef) rfl rfl (by kernel_rfl) (by kernel_rfl) (by kernel_rfl) (fun _ _ _ h => h) (Or.inr ⟨by rfl, rfl⟩) (by assumption) ?_
                                    (try simp only [Act.put, List.setIfInBounds_toArray, List.set_cons_zero, List.set_cons_succ])
                                    refine take_at 6 (some 142) (v := ?v1_6) rfl rfl (by kernel_rfl) (by kernel_rfl) (by kernel_rfl) (fun _ _ _ h => h) (Or.inl ⟨by rfl, ?hy1_6⟩) (by assumption) ?rest1_6
                                    case hy1_6 => (intro w hSw; (try dsimp only at hSw); go_simp; (try with_reducible rfl))
                                    (try simp only [Act.put, List.setIfInBounds_toArray, List.set_cons_zero, List.set_cons_succ])
                                    refine take_at 7 (some 143) (v := ?v1_7) rfl rfl (by kernel_rfl) (by kernel_rfl) (by kernel_rfl) (fun _ _ _ h => h) (Or.inl ⟨by rfl, ?hy1_7⟩) (by assumption) ?rest1_7
                                    case hy1_7 => (intro w hSw; (try dsimp only at hSw); go_simp; (try with_reducible rfl))
                                    (try simp only [Act.put, List.setIfInBounds_toArray, List.set_cons_zero, List.set_cons_succ])
                                    refine take_at 8 (some 144) (v := ?v1_8) rfl rfl (by kernel_rfl) (by kernel_rfl) (by kernel_rfl) (fun _ _ _ h => h) (Or.inl ⟨by rfl, ?hy1_8⟩) (by assumption) ?rest1_8
                                    case hy1_8 => (intro w hSw; (try dsimp only at hSw); go_simp; (try with_reducible rfl))
                                    (try simp only [Act.put, List.setIfInBounds_toArray, List.set_cons_zero, List.set_cons_succ])
                                    refine take_at 9 (some 145) (v := ?v1_9) rfl rfl (by kernel_rfl) (by kernel_rfl) (by kernel_rfl) (fun _ _ _ h => h) (Or.inl ⟨by rfl, ?hy1_9⟩) (by assumption) ?rest1_9
                                    case hy1_9 => (intro w hSw; (try dsimp only at hSw); go_simp; (try with_reducible rfl))
                                    (try simp only [Act.put, List.setIfInBounds_toArray, List.set_cons_zero, List.set_cons_succ])
                                    refine take_at 10 (some 146) (v := ?v1_10) rfl rfl (by kernel_rfl) (by kernel_rfl) (by kernel_rfl) (fun _ _ _ h => h) (Or.inl ⟨by rfl, ?hy1_10⟩) (by assumption) ?rest1_10
                                    case hy1_10 => (intro w hSw; (try dsimp only at hSw); go_simp; (try with_reducible rfl))
                                    (try simp only [Act.put, List.setIfInBounds_toArray, List.set_cons_zero, List.set_cons_succ])
                                    refine take_at 11 (some 147) (v := ?v1_11) rfl rfl (by kernel_rfl) (by kernel_rfl) (by kernel_rfl) (fun _ _ _ h => h) (Or.inl ⟨by rfl, ?hy1_11⟩) (by assumption) ?rest1_11
                                    case hy1_11 => (intro w hSw; (try dsimp only at hSw); go_simp; (try with_reducible rfl))
                                    (try simp only [Act.put, List.setIfInBounds_toArray, List.set_cons_zero, List.set_cons_succ])
                                    refine take_at 12 (some 148) (v := ?v1_12) rfl rfl (by kernel_rfl) (by kernel_rfl) (by kernel_rfl) (fun _ _ _ h => h) (Or.inl ⟨by rfl, ?hy1_12⟩) (by assumption) ?rest1_12
                                    case hy1_12 => (intro w hSw; (try dsimp only at hSw); go_simp; (try with_reducible rfl))
                                    (try simp only [Act.put, List.setIfInBounds_toArray, List.set_cons_zero, List.set_cons_succ])
                                    refine only_at 13 (some 149) _ rfl rfl rfl (by kernel_rfl) (by rfl) (fun K hK => ?_)
                                    go_simp
                                    refine (c4.out _).mono ?_
                                    rintro e wn ⟨rfl, hbS⟩
                                    (try (with_reducible replace hbS := below_undrew hbS))
                                    replace hBn := below_tr hBn hbS
                                    refine hK.out _ _ ?_ (fun hHeld => ?_)
                                    · first | (with_reducible exact mkS _ hBn) | (with_reducible exact mkS _ (Below.drew hBn))
                                    clear hK K
                                    (try simp only [Act.put, List.setIfInBounds_toArray, List.set_cons_zero, List.set_cons_succ])
                                    refine take_at 14 (some 150) (v := ?v1_14) rfl rfl (by kernel_rfl) (by kernel_rfl) (by kernel_rfl) (fun _ _ _ h => h) (Or.inl ⟨by rfl, ?hy1_14⟩) (by assumption) ?rest1_14
                                    case hy1_14 => (intro w hSw; (try dsimp only at hSw); go_simp; (try with_reducible rfl))
                                    (try simp only [Act.put, List.setIfInBounds_toArray, List.set_cons_zero, List.set_cons_succ])
                                    refine take_at 15 (some 151) (v := ?v1_15) rfl rfl (by kernel_rfl) (by kernel_rfl) (by kernel_rfl) (fun _ _ _ h => h) (Or.inl ⟨by rfl, ?hy1_15⟩) (by assumption) ?rest1_15
                                    case hy1_15 => (intro w hSw; (try dsimp only at hSw); go_simp; (try with_reducible rfl))
                                    (try simp only [Act.put, List.setIfInBounds_toArray, List.set_cons_zero, List.set_cons_succ])
                                    refine take_at 16 (some 152) (v := ?v1_16) rfl rfl (by kernel_rfl) (by kernel_rfl) (by kernel_rfl) (fun _ _ _ h => h) (Or.inl ⟨by rfl, ?hy1_16⟩) (by assumption) ?rest1_16
                                    case hy1_16 => (intro w hSw; (try dsimp only at hSw); go_simp; (try with_reducible rfl))
                                    (try simp only [Act.put, List.setIfInBounds_toArray, List.set_cons_zero, List.set_cons_succ])
                                    refine wpAnyH_done (by kernel_rfl) ?_ _
                                    go_wp2_with fail
                                    go_meet
                                    exact ⟨blk_keep hBn q5, below_tr hB hBn⟩
                                  · have c4 : ∀ W, Calls Try.prog 24 #[.agg #[.int .i64 1, .int .i64 0]] W fun e w' => e = .returned (.bool true) ∧ Below W.heap.size W w' := fun W => by have t := empty_any 1 0 W; simpa using t
                                    replace c4 := Lib.hid c4
                                    go_upto_region 20 with fail
                                    clear r2 f2 z2 r3 f3 z3 r4 f4 z4 r5 f5 z5
                                    have mkS : ∀ W, Below w20.heap.size w20 W → (fun W => W.cell? ⟨g5a, 0, none⟩ = some (.int .i64 1) ∧ W.cell? ⟨g5a, 1, none⟩ = some (.int .i64 0)) W := fun W h => ⟨row_of (blk_keep h k4) 0, row_of (blk_keep h k4) 1⟩
                                    dsimp only at mkS
                                    have hBn := Below.refl w20.heap.size w20
                                    have q5 := k5
                                    clear k2 k3 k4 k5
                                    refine wp_region_held_drew (S := fun W => W.cell? ⟨g5a, 0, none⟩ = some (.int .i64 1) ∧ W.cell? ⟨g5a, 1, none⟩ = some (.int .i64 0)) (by kernel_rfl) ?_ (fun hHeld => ?_)
                                    · first | (with_reducible exact mkS _ hBn) | (with_reducible exact mkS _ (Below.drew hBn))
                                    refine take_at 0 (some 136) (v := ?v2_0) rfl rfl (by kernel_rfl) (by kernel_rfl) (by kernel_rfl) (fun _ _ _ h => h) (Or.inl ⟨by rfl, ?hy2_0⟩) (by assumption) ?rest2_0
                                    case hy2_0 => (intro w hSw; (try dsimp only at hSw); go_simp; (try with_reducible rfl))
                                    (try simp only [Act.put, List.setIfInBounds_toArray, List.set_cons_zero, List.set_cons_succ])
                                    refine take_at 1 (some 137) (v := ?v2_1) rfl rfl (by kernel_rfl) (by kernel_rfl) (by kernel_rfl) (fun _ _ _ h => h) (Or.inl ⟨by rfl, ?hy2_1⟩) (by assumption) ?rest2_1
                                    case hy2_1 => (intro w hSw; (try dsimp only at hSw); go_simp; (try with_reducible rfl))
                                    (try simp only [Act.put, List.setIfInBounds_toArray, List.set_cons_zero, List.set_cons_succ])
                                    refine take_at 2 (some 138) (v := ?v2_2) rfl rfl (by kernel_rfl) (by kernel_rfl) (by kernel_rfl) (fun _ _ _ h => h) (Or.inl ⟨by rfl, ?hy2_2⟩) (by assumption) ?rest2_2
                                    case hy2_2 => (intro w hSw; (try dsimp only at hSw); go_simp; (try with_reducible rfl))
                                    (try simp only [Act.put, List.setIfInBounds_toArray, List.set_cons_zero, List.set_cons_succ])
                                    refine take_at 3 (some 139) (v := ?v2_3) rfl rfl (by kernel_rfl) (by kernel_rfl) (by kernel_rfl) (fun _ _ _ h => h) (Or.inl ⟨by rfl, ?hy2_3⟩) (by assumption) ?rest2_3
                                    case hy2_3 => (intro w hSw; (try dsimp only at hSw); go_simp; (try with_reducible rfl))
                                    (try simp only [Act.put, List.setIfInBounds_toArray, List.set_cons_zero, List.set_cons_succ])
                                    refine only_at 4 (some 140) _ rfl rfl rfl (by kernel_rfl) (by rfl) (fun K hK => ?_)
                                    go_simp
                                    refine (c4.out _).mono ?_
                                    rintro e wn ⟨rfl, hbS⟩
                                    (try (with_reducible replace hbS := below_undrew hbS))
                                    replace hBn := below_tr hBn hbS
                                    refine hK.out _ _ ?_ (fun hHeld => ?_)
                                    · first | (with_reducible exact mkS _ hBn) | (with_reducible exact mkS _ (Below.drew hBn))
                                    clear hK K
                                    (try simp only [Act.put, List.setIfInBounds_toArray, List.set_cons_zero, List.set_cons_succ])
                                    refine take_at 5 (some 141) (v := ?v2_5) rfl rfl (by kernel_rfl) (by kernel_rfl) (by kernel_rfl) (fun _ _ _ h => h) (Or.inl ⟨by rfl, ?hy2_5⟩) (by assumption) ?rest2_5
                                    case hy2_5 => (intro w hSw; (try dsimp only at hSw); go_simp; (try with_reducible rfl))
                                    (try simp only [Act.put, List.setIfInBounds_toArray, List.set_cons_zero, List.set_cons_succ])
                                    refine take_at 6 (some 142) (v := ?v2_6) rfl rfl (by kernel_rfl) (by kernel_rfl) (by kernel_rfl) (fun _ _ _ h => h) (Or.inl ⟨by rfl, ?hy2_6⟩) (by assumption) ?rest2_6
                                    case hy2_6 => (intro w hSw; (try dsimp only at hSw); go_simp; (try with_reducible rfl))
                                    (try simp only [Act.put, List.setIfInBounds_toArray, List.set_cons_zero, List.set_cons_succ])
                                    refine take_at 7 (some 143) (v := ?v2_7) rfl rfl (by kernel_rfl) (by kernel_rfl) (by kernel_rfl) (fun _ _ _ h => h) (Or.inl ⟨by rfl, ?hy2_7⟩) (by assumption) ?rest2_7
                                    case hy2_7 => (intro w hSw; (try dsimp only at hSw); go_simp; (try with_reducible rfl))
                                    (try simp only [Act.put, List.setIfInBounds_toArray, List.set_cons_zero, List.set_cons_succ])
                                    refine take_at 8 (some 144) (v := ?v2_8) rfl rfl (by kernel_rfl) (by kernel_rfl) (by kernel_rfl) (fun _ _ _ h => h) (Or.inl ⟨by rfl, ?hy2_8⟩) (by assumption) ?rest2_8
                                    case hy2_8 => (intro w hSw; (try dsimp only at hSw); go_simp; (try with_reducible rfl))
                                    (try simp only [Act.put, List.setIfInBounds_toArray, List.set_cons_zero, List.set_cons_succ])
                                    refine take_at 9 (some 145) (v := ?v2_9) rfl rfl (by kernel_rfl) (by kernel_rfl) (by kernel_rfl) (fun _ _ _ h => h) (Or.inl ⟨by rfl, ?hy2_9⟩) (by assumption) ?rest2_9
                                    case hy2_9 => (intro w hSw; (try dsimp only at hSw); go_simp; (try with_reducible rfl))
                                    (try simp only [Act.put, List.setIfInBounds_toArray, List.set_cons_zero, List.set_cons_succ])
                                    refine take_at 10 (some 146) (v := ?v2_10) rfl rfl (by kernel_rfl) (by kernel_rfl) (by kernel_rfl) (fun _ _ _ h => h) (Or.inl ⟨by rfl, ?hy2_10⟩) (by assumption) ?rest2_10
                                    case hy2_10 => (intro w hSw; (try dsimp only at hSw); go_simp; (try with_reducible rfl))
                                    (try simp only [Act.put, List.setIfInBounds_toArray, List.set_cons_zero, List.set_cons_succ])
                                    refine take_at 11 (some 147) (v := undef) rfl rfl (by kernel_rfl) (by kernel_rfl) (by kernel_rfl) (fun _ _ _ h => h) (Or.inr ⟨by rfl, rfl⟩) (by assumption) ?_
                                    (try simp only [Act.put, List.setIfInBounds_toArray, List.set_cons_zero, List.set_cons_succ])
                                    refine take_at 12 (some 148) (v := undef) rfl rfl (by kernel_rfl) (by kernel_rfl) (by kernel_rfl) (fun _ _ _ h => h) (Or.inr ⟨by rfl, rfl⟩) (by assumption) ?_
                                    (try simp only [Act.put, List.setIfInBounds_toArray, List.set_cons_zero, List.set_cons_succ])
                                    refine take_at 13 (some 149) (v := undef) rfl rfl (by kernel_rfl) (by kernel_rfl) (by kernel_rfl) (fun _ _ _ h => h) (Or.inr ⟨by rfl, rfl⟩) (by assumption) ?_
                                    (try simp only [Act.put, List.setIfInBounds_toArray, List.set_cons_zero, List.set_cons_succ])
                                    refine take_at 14 (some 150) (v := undef) rfl rfl (by kernel_rfl) (by kernel_rfl) (by kernel_rfl) (fun _ _ _ h => h) (Or.inr ⟨by rfl, rfl⟩) (by assumption) ?_
                                    (try simp only [Act.put, List.setIfInBounds_toArray, List.set_cons_zero, List.set_cons_succ])
                                    refine take_at 15 (some 151) (v := ?v2_15) rfl rfl (by kernel_rfl) (by kernel_rfl) (by kernel_rfl) (fun _ _ _ h => h) (Or.inl ⟨by rfl, ?hy2_15⟩) (by assumption) ?rest2_15
                                    case hy2_15 => (intro w hSw; (try dsimp only at hSw); go_simp; (try with_reducible rfl))
                                    (try simp only [Act.put, List.setIfInBounds_toArray, List.set_cons_zero, List.set_cons_succ])
                                    refine take_at 16 (some 152) (v := ?v2_16) rfl rfl (by kernel_rfl) (by kernel_rfl) (by kernel_rfl) (fun _ _ _ h => h) (Or.inl ⟨by rfl, ?hy2_16⟩) (by assumption) ?rest2_16
                                    case hy2_16 => (intro w hSw; (try dsimp only at hSw); go_simp; (try with_reducible rfl))
                                    (try simp only [Act.put, List.setIfInBounds_toArray, List.set_cons_zero, List.set_cons_succ])
                                    refine wpAnyH_done (by kernel_rfl) ?_ _
                                    go_wp2_with fail
                                    go_meet
                                    exact ⟨blk_keep hBn q5, below_tr hB hBn⟩
                                  · have c4 : ∀ W, Calls Try.prog 24 #[.agg #[.int .i64 1, .int .i64 0]] W fun e w' => e = .returned (.bool true) ∧ Below W.heap.size W w' := fun W => by have t := empty_any 1 0 W; simpa using t
                                    replace c4 := Lib.hid c4
                                    go_upto_region 20 with fail
                                    clear r2 f2 z2 r3 f3 z3 r4 f4 z4 r5 f5 z5
                                    have mkS : ∀ W, Below w20.heap.size w20 W → (fun W => W.cell? ⟨g5a, 0, none⟩ = some (.int .i64 1) ∧ W.cell? ⟨g5a, 1, none⟩ = some (.int .i64 0)) W := fun W h => ⟨row_of (blk_keep h k4) 0, row_of (blk_keep h k4) 1⟩
                                    dsimp only at mkS
                                    have hBn := Below.refl w20.heap.size w20
                                    have q5 := k5
                                    clear k2 k3 k4 k5
                                    refine wp_region_held_drew (S := fun W => W.cell? ⟨g5a, 0, none⟩ = some (.int .i64 1) ∧ W.cell? ⟨g5a, 1, none⟩ = some (.int .i64 0)) (by kernel_rfl) ?_ (fun hHeld => ?_)
                                    · first | (with_reducible exact mkS _ hBn) | (with_reducible exact mkS _ (Below.drew hBn))
                                    refine take_at 0 (some 136) (v := ?v3_0) rfl rfl (by kernel_rfl) (by kernel_rfl) (by kernel_rfl) (fun _ _ _ h => h) (Or.inl ⟨by rfl, ?hy3_0⟩) (by assumption) ?rest3_0
                                    case hy3_0 => (intro w hSw; (try dsimp only at hSw); go_simp; (try with_reducible rfl))
                                    (try simp only [Act.put, List.setIfInBounds_toArray, List.set_cons_zero, List.set_cons_succ])
                                    refine take_at 1 (some 137) (v := ?v3_1) rfl rfl (by kernel_rfl) (by kernel_rfl) (by kernel_rfl) (fun _ _ _ h => h) (Or.inl ⟨by rfl, ?hy3_1⟩) (by assumption) ?rest3_1
                                    case hy3_1 => (intro w hSw; (try dsimp only at hSw); go_simp; (try with_reducible rfl))
                                    (try simp only [Act.put, List.setIfInBounds_toArray, List.set_cons_zero, List.set_cons_succ])
                                    refine take_at 2 (some 138) (v := ?v3_2) rfl rfl (by kernel_rfl) (by kernel_rfl) (by kernel_rfl) (fun _ _ _ h => h) (Or.inl ⟨by rfl, ?hy3_2⟩) (by assumption) ?rest3_2
                                    case hy3_2 => (intro w hSw; (try dsimp only at hSw); go_simp; (try with_reducible rfl))
                                    (try simp only [Act.put, List.setIfInBounds_toArray, List.set_cons_zero, List.set_cons_succ])
                                    refine take_at 3 (some 139) (v := ?v3_3) rfl rfl (by kernel_rfl) (by kernel_rfl) (by kernel_rfl) (fun _ _ _ h => h) (Or.inl ⟨by rfl, ?hy3_3⟩) (by assumption) ?rest3_3
                                    case hy3_3 => (intro w hSw; (try dsimp only at hSw); go_simp; (try with_reducible rfl))
                                    (try simp only [Act.put, List.setIfInBounds_toArray, List.set_cons_zero, List.set_cons_succ])
                                    refine only_at 4 (some 140) _ rfl rfl rfl (by kernel_rfl) (by rfl) (fun K hK => ?_)
                                    go_simp
                                    refine (c4.out _).mono ?_
                                    rintro e wn ⟨rfl, hbS⟩
                                    (try (with_reducible replace hbS := below_undrew hbS))
                                    replace hBn := below_tr hBn hbS
                                    refine hK.out _ _ ?_ (fun hHeld => ?_)
                                    · first | (with_reducible exact mkS _ hBn) | (with_reducible exact mkS _ (Below.drew hBn))
                                    clear hK K
                                    (try simp only [Act.put, List.setIfInBounds_toArray, List.set_cons_zero, List.set_cons_succ])
                                    refine take_at 5 (some 141) (v := ?v3_5) rfl rfl (by kernel_rfl) (by kernel_rfl) (by kernel_rfl) (fun _ _ _ h => h) (Or.inl ⟨by rfl, ?hy3_5⟩) (by assumption) ?rest3_5
                                    case hy3_5 => (intro w hSw; (try dsimp only at hSw); go_simp; (try with_reducible rfl))
                                    (try simp only [Act.put, List.setIfInBounds_toArray, List.set_cons_zero, List.set_cons_succ])
                                    refine take_at 6 (some 142) (v := ?v3_6) rfl rfl (by kernel_rfl) (by kernel_rfl) (by kernel_rfl) (fun _ _ _ h => h) (Or.inl ⟨by rfl, ?hy3_6⟩) (by assumption) ?rest3_6
                                    case hy3_6 => (intro w hSw; (try dsimp only at hSw); go_simp; (try with_reducible rfl))
                                    (try simp only [Act.put, List.setIfInBounds_toArray, List.set_cons_zero, List.set_cons_succ])
                                    refine take_at 7 (some 143) (v := ?v3_7) rfl rfl (by kernel_rfl) (by kernel_rfl) (by kernel_rfl) (fun _ _ _ h => h) (Or.inl ⟨by rfl, ?hy3_7⟩) (by assumption) ?rest3_7
                                    case hy3_7 => (intro w hSw; (try dsimp only at hSw); go_simp; (try with_reducible rfl))
                                    (try simp only [Act.put, List.setIfInBounds_toArray, List.set_cons_zero, List.set_cons_succ])
                                    refine take_at 8 (some 144) (v := ?v3_8) rfl rfl (by kernel_rfl) (by kernel_rfl) (by kernel_rfl) (fun _ _ _ h => h) (Or.inl ⟨by rfl, ?hy3_8⟩) (by assumption) ?rest3_8
                                    case hy3_8 => (intro w hSw; (try dsimp only at hSw); go_simp; (try with_reducible rfl))
                                    (try simp only [Act.put, List.setIfInBounds_toArray, List.set_cons_zero, List.set_cons_succ])
                                    refine take_at 9 (some 145) (v := ?v3_9) rfl rfl (by kernel_rfl) (by kernel_rfl) (by kernel_rfl) (fun _ _ _ h => h) (Or.inl ⟨by rfl, ?hy3_9⟩) (by assumption) ?rest3_9
                                    case hy3_9 => (intro w hSw; (try dsimp only at hSw); go_simp; (try with_reducible rfl))
                                    (try simp only [Act.put, List.setIfInBounds_toArray, List.set_cons_zero, List.set_cons_succ])
                                    refine take_at 10 (some 146) (v := ?v3_10) rfl rfl (by kernel_rfl) (by kernel_rfl) (by kernel_rfl) (fun _ _ _ h => h) (Or.inl ⟨by rfl, ?hy3_10⟩) (by assumption) ?rest3_10
                                    case hy3_10 => (intro w hSw; (try dsimp only at hSw); go_simp; (try with_reducible rfl))
                                    (try simp only [Act.put, List.setIfInBounds_toArray, List.set_cons_zero, List.set_cons_succ])
                                    refine take_at 11 (some 147) (v := undef) rfl rfl (by kernel_rfl) (by kernel_rfl) (by kernel_rfl) (fun _ _ _ h => h) (Or.inr ⟨by rfl, rfl⟩) (by assumption) ?_
                                    (try simp only [Act.put, List.setIfInBounds_toArray, List.set_cons_zero, List.set_cons_succ])
                                    refine take_at 12 (some 148) (v := undef) rfl rfl (by kernel_rfl) (by kernel_rfl) (by kernel_rfl) (fun _ _ _ h => h) (Or.inr ⟨by rfl, rfl⟩) (by assumption) ?_
                                    (try simp only [Act.put, List.setIfInBounds_toArray, List.set_cons_zero, List.set_cons_succ])
                                    refine take_at 13 (some 149) (v := undef) rfl rfl (by kernel_rfl) (by kernel_rfl) (by kernel_rfl) (fun _ _ _ h => h) (Or.inr ⟨by rfl, rfl⟩) (by assumption) ?_
                                    (try simp only [Act.put, List.setIfInBounds_toArray, List.set_cons_zero, List.set_cons_succ])
                                    refine take_at 14 (some 150) (v := undef) rfl rfl (by kernel_rfl) (by kernel_rfl) (by kernel_rfl) (fun _ _ _ h => h) (Or.inr ⟨by rfl, rfl⟩) (by assumption) ?_
                                    (try simp only [Act.put, List.setIfInBounds_toArray, List.set_cons_zero, List.set_cons_succ])
                                    refine take_at 15 (some 151) (v := ?v3_15) rfl rfl (by kernel_rfl) (by kernel_rfl) (by kernel_rfl) (fun _ _ _ h => h) (Or.inl ⟨by rfl, ?hy3_15⟩) (by assumption) ?rest3_15
                                    case hy3_15 => (intro w hSw; (try dsimp only at hSw); go_simp; (try with_reducible rfl))
                                    (try simp only [Act.put, List.setIfInBounds_toArray, List.set_cons_zero, List.set_cons_succ])
                                    refine take_at 16 (some 152) (v := ?v3_16) rfl rfl (by kernel_rfl) (by kernel_rfl) (by kernel_rfl) (fun _ _ _ h => h) (Or.inl ⟨by rfl, ?hy3_16⟩) (by assumption) ?rest3_16
                                    case hy3_16 => (intro w hSw; (try dsimp only at hSw); go_simp; (try with_reducible rfl))
                                    (try simp only [Act.put, List.setIfInBounds_toArray, List.set_cons_zero, List.set_cons_succ])
                                    refine wpAnyH_done (by kernel_rfl) ?_ _
                                    go_wp2_with fail
                                    go_meet
                                    exact ⟨blk_keep hBn q5, below_tr hB hBn⟩
                              case rest =>
                                as_aux_lemma =>
                                  clear r2 f2 z2 r3 f3 z3 r4 f4 z4 r5 f5 z5
                                  clear k2 k3 k4 k5 hB
                                  obtain ⟨k5, hB⟩ := hcut
                                  replace hal := hal.out
                                  cases dz
                                  · cases o
                                    · obtain rfl : ov = false := sU.out (.inr hal)
                                      clear sU sO
                                      skip
                                      have r5 := row_of k5
                                      have f5 := frozen_of k5
                                      have z5 := blk_lt k5
                                      go_wp2_with fail
                                      refine (does_any _).mono ?_
                                      rintro e w41 ⟨rfl, hb⟩
                                      replace k5 := blk_keep hb k5
                                      replace hB := hB.trans (hb.mono hB.size)
                                      clear r5 f5 z5
                                      clear hb
                                      have r5 := row_of k5
                                      have f5 := frozen_of k5
                                      have z5 := blk_lt k5
                                      go_wp2_with fail
                                      go_ret
                                      exact ⟨by simp, hB⟩
                                    · obtain rfl : ov = true := sU.out (.inr hal)
                                      clear sU sO
                                      skip
                                      have r5 := row_of k5
                                      have f5 := frozen_of k5
                                      have z5 := blk_lt k5
                                      go_wp2_with fail
                                      refine (does_any _).mono ?_
                                      rintro e w41 ⟨rfl, hb⟩
                                      replace k5 := blk_keep hb k5
                                      replace hB := hB.trans (hb.mono hB.size)
                                      clear r5 f5 z5
                                      clear hb
                                      have r5 := row_of k5
                                      have f5 := frozen_of k5
                                      have z5 := blk_lt k5
                                      go_wp2_with fail
                                      go_ret
                                      exact ⟨by simp, hB⟩
                                  · cases o
                                    · obtain rfl : ov = false := sU.out (.inr hal)
                                      clear sU sO
                                      skip
                                      have r5 := row_of k5
                                      have f5 := frozen_of k5
                                      have z5 := blk_lt k5
                                      go_wp2_with fail
                                      refine (does_any _).mono ?_
                                      rintro e w41 ⟨rfl, hb⟩
                                      replace k5 := blk_keep hb k5
                                      replace hB := hB.trans (hb.mono hB.size)
                                      clear r5 f5 z5
                                      clear hb
                                      have r5 := row_of k5
                                      have f5 := frozen_of k5
                                      have z5 := blk_lt k5
                                      go_wp2_with fail
                                      go_ret
                                      exact ⟨by simp, hB⟩
                                    · obtain rfl : ov = true := sU.out (.inr hal)
                                      clear sU sO
                                      skip
                                      have r5 := row_of k5
                                      have f5 := frozen_of k5
                                      have z5 := blk_lt k5
                                      go_wp2_with fail
                                      refine (does_any _).mono ?_
                                      rintro e w41 ⟨rfl, hb⟩
                                      replace k5 := blk_keep hb k5
                                      replace hB := hB.trans (hb.mono hB.size)
                                      clear r5 f5 z5
                                      clear hb
                                      have r5 := row_of k5
                                      have f5 := frozen_of k5
                                      have z5 := blk_lt k5
                                      go_wp2_with fail
                                      go_ret
                                      exact ⟨by simp, hB⟩
                            · rw [decide_eq_false hal]
                              clear hal hd cd
                              go_upto_region 22 with fail
                              clear r2 f2 z2 r3 f3 z3 r4 f4 z4 r5 f5 z5
                              clear k2 k3 k4
                              cases dz
                              · cases o
                                · cases ov
                                  · by_cases h5 : 5 < K
                                    · have d5 := decide_eq_true h5
                                      clear h5
                                      clear sU sO
                                      skip
                                      have r5 := row_of k5
                                      have f5 := frozen_of k5
                                      have z5 := blk_lt k5
                                      go_wp2_with fail
                                      refine (does_any _).mono ?_
                                      rintro e w21 ⟨rfl, hb⟩
                                      replace k5 := blk_keep hb k5
                                      replace hB := hB.trans (hb.mono hB.size)
                                      clear r5 f5 z5
                                      clear hb
                                      have r5 := row_of k5
                                      have f5 := frozen_of k5
                                      have z5 := blk_lt k5
                                      go_wp2_with fail
                                      go_ret
                                      exact ⟨by simp, hB⟩
                                    · have d5 := decide_eq_false h5
                                      clear h5
                                      clear sU sO
                                      skip
                                      have r5 := row_of k5
                                      have f5 := frozen_of k5
                                      have z5 := blk_lt k5
                                      go_wp2_with fail
                                      refine (does_any _).mono ?_
                                      rintro e w21 ⟨rfl, hb⟩
                                      replace k5 := blk_keep hb k5
                                      replace hB := hB.trans (hb.mono hB.size)
                                      clear r5 f5 z5
                                      clear hb
                                      have r5 := row_of k5
                                      have f5 := frozen_of k5
                                      have z5 := blk_lt k5
                                      go_wp2_with fail
                                      go_ret
                                      exact ⟨by simp, hB⟩
                                  · have h5 : 5 < K := by
                                      by_cases h : K ≤ 5
                                      · have := sU.out (.inl h); cases this
                                      · omega
                                    have d5 := decide_eq_true h5
                                    clear h5
                                    clear sU sO
                                    skip
                                    have r5 := row_of k5
                                    have f5 := frozen_of k5
                                    have z5 := blk_lt k5
                                    go_wp2_with fail
                                    refine (does_any _).mono ?_
                                    rintro e w21 ⟨rfl, hb⟩
                                    replace k5 := blk_keep hb k5
                                    replace hB := hB.trans (hb.mono hB.size)
                                    clear r5 f5 z5
                                    clear hb
                                    have r5 := row_of k5
                                    have f5 := frozen_of k5
                                    have z5 := blk_lt k5
                                    go_wp2_with fail
                                    go_ret
                                    exact ⟨by simp, hB⟩
                                · obtain rfl : ov = true := sO.out rfl
                                  by_cases h5 : 5 < K
                                  · have d5 := decide_eq_true h5
                                    clear h5
                                    clear sU sO
                                    skip
                                    have r5 := row_of k5
                                    have f5 := frozen_of k5
                                    have z5 := blk_lt k5
                                    go_wp2_with fail
                                    refine (does_any _).mono ?_
                                    rintro e w21 ⟨rfl, hb⟩
                                    replace k5 := blk_keep hb k5
                                    replace hB := hB.trans (hb.mono hB.size)
                                    clear r5 f5 z5
                                    clear hb
                                    have r5 := row_of k5
                                    have f5 := frozen_of k5
                                    have z5 := blk_lt k5
                                    go_wp2_with fail
                                    go_ret
                                    exact ⟨by simp, hB⟩
                                  · have d5 := decide_eq_false h5
                                    clear h5
                                    clear sU sO
                                    skip
                                    have r5 := row_of k5
                                    have f5 := frozen_of k5
                                    have z5 := blk_lt k5
                                    go_wp2_with fail
                                    refine (does_any _).mono ?_
                                    rintro e w21 ⟨rfl, hb⟩
                                    replace k5 := blk_keep hb k5
                                    replace hB := hB.trans (hb.mono hB.size)
                                    clear r5 f5 z5
                                    clear hb
                                    have r5 := row_of k5
                                    have f5 := frozen_of k5
                                    have z5 := blk_lt k5
                                    go_wp2_with fail
                                    go_ret
                                    exact ⟨by simp, hB⟩
                              · cases o
                                · cases ov
                                  · by_cases h5 : 5 < K
                                    · have d5 := decide_eq_true h5
                                      clear h5
                                      clear sU sO
                                      skip
                                      have r5 := row_of k5
                                      have f5 := frozen_of k5
                                      have z5 := blk_lt k5
                                      go_wp2_with fail
                                      refine (does_any _).mono ?_
                                      rintro e w21 ⟨rfl, hb⟩
                                      replace k5 := blk_keep hb k5
                                      replace hB := hB.trans (hb.mono hB.size)
                                      clear r5 f5 z5
                                      clear hb
                                      have r5 := row_of k5
                                      have f5 := frozen_of k5
                                      have z5 := blk_lt k5
                                      go_wp2_with fail
                                      go_ret
                                      exact ⟨by simp, hB⟩
                                    · have d5 := decide_eq_false h5
                                      clear h5
                                      clear sU sO
                                      skip
                                      have r5 := row_of k5
                                      have f5 := frozen_of k5
                                      have z5 := blk_lt k5
                                      go_wp2_with fail
                                      refine (does_any _).mono ?_
                                      rintro e w21 ⟨rfl, hb⟩
                                      replace k5 := blk_keep hb k5
                                      replace hB := hB.trans (hb.mono hB.size)
                                      clear r5 f5 z5
                                      clear hb
                                      have r5 := row_of k5
                                      have f5 := frozen_of k5
                                      have z5 := blk_lt k5
                                      go_wp2_with fail
                                      go_ret
                                      exact ⟨by simp, hB⟩
                                  · have h5 : 5 < K := by
                                      by_cases h : K ≤ 5
                                      · have := sU.out (.inl h); cases this
                                      · omega
                                    have d5 := decide_eq_true h5
                                    clear h5
                                    clear sU sO
                                    skip
                                    have r5 := row_of k5
                                    have f5 := frozen_of k5
                                    have z5 := blk_lt k5
                                    go_wp2_with fail
                                    refine (does_any _).mono ?_
                                    rintro e w21 ⟨rfl, hb⟩
                                    replace k5 := blk_keep hb k5
                                    replace hB := hB.trans (hb.mono hB.size)
                                    clear r5 f5 z5
                                    clear hb
                                    have r5 := row_of k5
                                    have f5 := frozen_of k5
                                    have z5 := blk_lt k5
                                    go_wp2_with fail
                                    go_ret
                                    exact ⟨by simp, hB⟩
                                · obtain rfl : ov = true := sO.out rfl
                                  by_cases h5 : 5 < K
                                  · have d5 := decide_eq_true h5
                                    clear h5
                                    clear sU sO
                                    skip
                                    have r5 := row_of k5
                                    have f5 := frozen_of k5
                                    have z5 := blk_lt k5
                                    go_wp2_with fail
                                    refine (does_any _).mono ?_
                                    rintro e w21 ⟨rfl, hb⟩
                                    replace k5 := blk_keep hb k5
                                    replace hB := hB.trans (hb.mono hB.size)
                                    clear r5 f5 z5
                                    clear hb
                                    have r5 := row_of k5
                                    have f5 := frozen_of k5
                                    have z5 := blk_lt k5
                                    go_wp2_with fail
                                    go_ret
                                    exact ⟨by simp, hB⟩
                                  · have d5 := decide_eq_false h5
                                    clear h5
                                    clear sU sO
                                    skip
                                    have r5 := row_of k5
                                    have f5 := frozen_of k5
                                    have z5 := blk_lt k5
                                    go_wp2_with fail
                                    refine (does_any _).mono ?_
                                    rintro e w21 ⟨rfl, hb⟩
                                    replace k5 := blk_keep hb k5
                                    replace hB := hB.trans (hb.mono hB.size)
                                    clear r5 f5 z5
                                    clear hb
                                    have r5 := row_of k5
                                    have f5 := frozen_of k5
                                    have z5 := blk_lt k5
                                    go_wp2_with fail
                                    go_ret
                                    exact ⟨by simp, hB⟩
end Go.Proofs.Ytkicilkegeckeaa
