/-
  step.Run of one process whose first edge errs, with one pick of it.
-/
import Derived.Test.YtmcomhjfpegieaaHd
import Derived.Test.YtmcomhjfpegieaaHe
namespace Go.Proofs.Ytmcomhjfpegieaa
open Go.RowKit
variable {ek em ex : Int} {EA : Option Addr} {en ec : Nat}

theorem put4' {W WF : World} {n : Nat} {t : TypeId} {z0 z1 z2 z3 : Value} (h : W.heap[n]? = some (.cells #[z0, z1, z2, z3] t (0, 0))) (v0 v1 v2 v3 : Value)
    (hW : WF = ((((W.setCell ⟨n, 0, none⟩ v0).setCell ⟨n, 1, none⟩ v1).setCell ⟨n, 2, none⟩ v2).setCell ⟨n, 3, none⟩ v3).drew) :
    (∀ o, WF.cell? ⟨n, o, none⟩ = (#[v0, v1, v2, v3] : Array Value)[o]?) ∧ (∀ B, B ≤ n → Below B W WF) ∧ (∀ (b : Nat) (x : Obj), b ≠ n → W.heap[b]? = some x → WF.heap[b]? = some x) := by
  obtain ⟨h1, h2, h3⟩ := put4 h v0 v1 v2 v3 rfl
  subst hW
  exact ⟨h1, fun B hB => (h2 B hB).drew, h3⟩
def RunOut (w : World) (f : Int) (e : Ending) (w' : World) : Prop :=
  ∃ (A : Option Addr) (n c : Nat), e = .returned (.tuple #[.slice A n c, .agg #[.bool false, .int .i64 f, .int .i64 0, .int .i64 0], .int .i64 0]) ∧ Below w.heap.size w w'
set_option maxRecDepth 100000 in
set_option maxHeartbeats 8000000 in
theorem run_err (d : Nat) (x : Ex) (f : Int) (hf : (f == 0) = false) (G cg V cgv x0 ce p cp : Nat) (HH : Option Addr) (hc : Nat) (w : World) (hcg : 1 ≤ cg) (hcv : 1 ≤ cgv) (hce : 1 ≤ ce) (hcp : 1 ≤ cp) (hG : G < w.heap.size) (hV : V < w.heap.size) (hx0 : x0 < w.heap.size) (hp : p < w.heap.size)
    (hg : w.rangeAt G 0 [.int .i64 2, .slice (some ⟨x0, 0, none⟩) 1 ce, .slice HH 0 hc]) (hv : w.cell? ⟨V, 0, none⟩ = some (.int .i64 1)) (he : w.rangeAt x0 0 [.int .i64 0, .int .i64 1, .int .i64 1, .int .i64 0, .int .i64 0, .int .i64 0, .int .i64 ek, .int .i64 em, .int .i64 ex, .slice EA en ec, .int .i64 0, .int .i64 0, .int .i64 0, .int .i64 0, .slice none 0 0, .int .i64 0, .int .i64 0, .int .i64 0, .slice none 0 0]) (hpk : w.heap[p]? = some (.cells #[.int .i64 0, .bool false, .int .i64 0] 90 (0, 0))) (hst : StOk w none 0 0 0 1 [.int .i64 1, .int .i64 0, .int .i64 0, .int .i64 0, .int .i64 ek, .int .i64 em, .int .i64 ex, .slice EA en ec, .int .i64 0, .int .i64 0, .int .i64 0, .int .i64 0, .slice none 0 0, .int .i64 0, .int .i64 0, .int .i64 0, .slice none 0 0, .slice none 0 0, .slice none 0 0, .slice none 0 0])
    (hx : ExIn w w.heap.size d x (.agg #[.int .i64 ek, .int .i64 em, .int .i64 ex, .slice EA en ec])) (hev : evF [0] d x = (0, f)) :
    Calls Try.prog 28 #[.agg #[.slice none 0 0, .slice (some ⟨G, 0, none⟩) 1 cg, .slice (some ⟨V, 0, none⟩) 1 cgv], .slice (some ⟨p, 0, none⟩) 1 cp] w (RunOut w f) := by
  replace he := Lib.hid he
  replace hg := Lib.hid hg
  replace hst := Lib.hid hst
  replace hx := Lib.hid hx
  replace hev := Lib.hid hev
  replace hpk := Lib.hid hpk
  go_enter Try.func28, Try.ntmps28
  go_upto_region 1 with fail
  refine wp_world (fun W => W.heap[w.heap.size]? = some (.cells #[.slice none 0 0, .slice (some ⟨G, 0, none⟩) 1 cg, .slice (some ⟨V, 0, none⟩) 1 cgv] 36 (0, 0)) ∧ W.heap[w.heap.size + 1]? = some (.cells #[.bool false, .int .i64 0, .int .i64 0, .int .i64 0] 86 (0, 0)) ∧ Below w.heap.size w W ∧ w.heap.size + 2 ≤ W.heap.size) ⟨blkUp (blkA _ _ rfl) _, blkA _ _ (by simp), ((Below.refl _ _).alloc (Nat.le_refl _) _).alloc (by simp) _, by simp⟩ ?_
  rintro w0 ⟨k0, k1, hB0, hz0⟩
  have q0 := row_of k0
  replace k0 := Lib.hid k0
  replace k1 := Lib.hid k1
  go_wp2_with fail
  refine (start_one G cg V cgv x0 ce HH hc w0 hcg hcv hce (by omega) (by omega) (by omega) (range_keep hB0 hG hg.out) ((hB0.cell (p := ⟨V, 0, none⟩) hV).trans hv) (range_keep hB0 hx0 he.out) (fun W hW => hst.out W (hB0.trans (hW.mono hB0.size)))).mono ?_
  rintro e w1 ⟨a, v, cv, b, q, u, rfl, la, lv, lb, hcv1, ea, ev, eb, hb1⟩
  have hB1 : Below w.heap.size w w1 := hB0.trans (hb1.mono hB0.size)
  have m0 := Lib.hid (blk_keep hb1 k0.out)
  have m1 := Lib.hid (blk_keep hb1 k1.out)
  clear q0 k0 k1 hb1 hB0 hz0
  go_upto_region 5 with fail
  refine wp_world (fun W => W.heap[w.heap.size]? = some (.cells #[.slice none 0 0, .slice (some ⟨G, 0, none⟩) 1 cg, .slice (some ⟨V, 0, none⟩) 1 cgv] 36 (0, 0)) ∧ W.heap[w.heap.size + 1]? = some (.cells #[.bool false, .int .i64 0, .int .i64 0, .int .i64 0] 86 (0, 0)) ∧ W.heap[w1.heap.size]? = some (.cells #[.slice (some ⟨a, 0, none⟩) 1 1, .slice (some ⟨v, 0, none⟩) 1 cv, .slice (some ⟨q, 0, none⟩) 0 0, .slice (some ⟨u, 0, none⟩) 0 0] 40 (0, 0)) ∧ Below w1.heap.size w1 W ∧ Below w.heap.size w W) ⟨blkUp (blkUp m0.out _) _, blkUp (blkUp m1.out _) _, blkUp (blkA _ _ rfl) _, ((Below.refl _ _).alloc (Nat.le_refl _) _).alloc (by simp) _, (hB1.alloc hB1.size _).alloc (by have := hB1.size; simp; omega) _⟩ ?_
  rintro w2 ⟨n0, n1, n2, hbw, hB2⟩
  have hz2 := hB2.size
  have hzw := hbw.size
  have ea2 := (hbw.cell (p := ⟨a, 0, none⟩) la).trans ea
  have ev2 := (hbw.cell (p := ⟨v, 0, none⟩) lv).trans ev
  have eb2 := (hbw.cell (p := ⟨b, 0, none⟩) lb).trans eb
  have pk2 := (hB2.block p hp).trans hpk.out
  have pr := row_of pk2
  replace n0 := Lib.hid n0
  replace n1 := Lib.hid n1
  replace n2 := Lib.hid n2
  replace pk2 := Lib.hid pk2
  clear m0 m1 hB1 ea ev eb
  go_wp2_with fail
  refine wp_loop_rounds 2 ?_
  rw [rounds_succ]
  go_upto_region 8 with fail
  refine wp_world (fun W => W.heap[w.heap.size]? = some (.cells #[.slice none 0 0, .slice (some ⟨G, 0, none⟩) 1 cg, .slice (some ⟨V, 0, none⟩) 1 cgv] 36 (0, 0)) ∧ W.heap[w.heap.size + 1]? = some (.cells #[.bool false, .int .i64 0, .int .i64 0, .int .i64 0] 86 (0, 0)) ∧ W.heap[w1.heap.size]? = some (.cells #[.slice (some ⟨a, 0, none⟩) 1 1, .slice (some ⟨v, 0, none⟩) 1 cv, .slice (some ⟨q, 0, none⟩) 0 0, .slice (some ⟨u, 0, none⟩) 0 0] 40 (0, 0)) ∧ W.heap[w2.heap.size]? = some (.cells #[.int .i64 0, .bool false, .int .i64 0] 90 (0, 0)) ∧ Below w2.heap.size w2 W ∧ Below w.heap.size w W) ⟨blkUp n0.out _, blkUp n1.out _, blkUp n2.out _, blkA _ _ rfl, (Below.refl _ _).alloc (Nat.le_refl _) _, hB2.alloc hB2.size _⟩ ?_
  rintro w3 ⟨s0, s1, s2, s3, hbv, hB3⟩
  have hz3 := hB3.size
  have hzv := hbv.size
  have t0 := row_of s0
  have t2 := row_of s2
  have t3 := row_of s3
  have ea3 := (hbv.cell (p := ⟨a, 0, none⟩) (by show a < _; omega)).trans ea2
  have ev3 := (hbv.cell (p := ⟨v, 0, none⟩) (by show v < _; omega)).trans ev2
  have eb3 := (hbv.cell (p := ⟨b, 0, none⟩) (by show b < _; omega)).trans eb2
  replace s0 := Lib.hid s0
  replace s1 := Lib.hid s1
  replace s2 := Lib.hid s2
  replace s3 := Lib.hid s3
  clear n0 n1 n2 pk2 pr hbw ea2 ev2 eb2
  go_wp2_with fail
  refine (move_err d x f hf a 1 v cv 0 0 b 1 G cg V cgv x0 ce 0 (some ⟨q, 0, none⟩) (some ⟨u, 0, none⟩) HH hc w3 hcv1 (by decide) hcg hce (by omega) (by omega) (by omega) (by omega) (by omega) ea3 ev3 eb3 (range_keep hB3 hG hg.out) (range_keep hB3 hx0 he.out) ((hx.out.below hB3).mono hB3.size) hev.out).mono ?_
  rintro e w4 ⟨A0, A1, A2, A3, i0, j0, i1, j1, i2, j2, i3, j3, rfl, hb4⟩
  have hB4 : Below w.heap.size w w4 := hB3.trans (hb4.mono hz3)
  have p1 := blk_keep hb4 s1.out
  have y1 := row_of p1
  have l1 := blk_lt p1
  have f0 := frozen_of p1 0
  have f1 := frozen_of p1 1
  have f2 := frozen_of p1 2
  have f3 := frozen_of p1 3
  replace p1 := Lib.hid p1
  clear t0 t2 t3 s0 s1 s2 s3 hb4 ea3 ev3 eb3 hbv
  have x1 : w.heap.size + 1 < w4.heap.size + 1 := by omega
  go_upto_region 10 with fail
  refine wp_world (fun W => W.heap[w.heap.size + 1]? = some (.cells #[.bool false, .int .i64 0, .int .i64 0, .int .i64 0] 86 (0, 0)) ∧ W.heap[w4.heap.size + 1]? = some (.cells #[.bool false, .int .i64 f, .int .i64 0, .int .i64 0] 86 (0, 0)) ∧ Below w.heap.size w W) ⟨blkUp (blkUp p1.out _) _, blkA _ _ (by simp), (hB4.alloc hB4.size _).alloc (by have := hB4.size; simp; omega) _⟩ ?_
  clear y1 l1 f0 f1 f2 f3 x1
  rintro w5 ⟨g1, gd, hB5⟩
  have y1 := row_of g1
  have yd := row_of gd
  have l1 := blk_lt g1
  have f0 := frozen_of g1 0
  have f1 := frozen_of g1 1
  have f2 := frozen_of g1 2
  have f3 := frozen_of g1 3
  replace g1 := Lib.hid g1
  replace gd := Lib.hid gd
  go_region
  all_goals
    go_wp2_with fail
    generalize hWF : (World.drew _) = WF
    obtain ⟨c4, hbF, hoF⟩ := put4' (n := w.heap.size + 1) g1.out _ _ _ _ hWF.symm
    clear hWF
    exact bodyPost_ret (v := .tuple #[.slice (some ⟨w1.heap.size + 1, 0, none⟩) 1 1, .agg #[.bool false, .int .i64 f, .int .i64 0, .int .i64 0], .int .i64 0]) (by simp [results, Try.results28, go_sem, c4]) rfl ⟨_, _, _, rfl, hB5.trans (hbF _ (by omega))⟩
end Go.Proofs.Ytmcomhjfpegieaa

