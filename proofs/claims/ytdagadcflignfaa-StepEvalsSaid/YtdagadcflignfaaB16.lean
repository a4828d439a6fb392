/-
  itv's small calls: what they tell, plainly.; itv's and the reference's calls of two: within, either, both, as far as may be, back again.; The least and the greatest of four numbers; what is made of the ends of two.; Do of sums and differences, and of nothing; Neg; what every law of layer 8 asks.; Regions that draw their order, where two blocks are made beside calls: what is carried through.; Regions that draw their order, and end in stores: what is carried through.; Test: those for which a comparison holds.; A region that draws, walked by hand: an operation is taken first.; ItvTests: plain mathematics: where a comparison holds, told by its ends.; A block that is made behind two stores.; Plain mathematics of products, quotients and rests of two Itvs.; What rest makes of two; Do of products, quotients and rests.; Either, widening, narrowing, plainly: what they have.; What Do tells of each kind and two Itvs.; itv.Do: what it tells of two Itvs.; eval.Eval: what an expression may be.; A bound more: zone.bounded, zone.Bound.
-/
import Derived.Test.YtdagadcflignfaaChecked
import Derived.WalkKit
import Derived.ProofKit
import Derived.Below
import Derived.Handy
import Derived.Lib.Hide
import Derived.IntWalk
import Derived.Deep.WholeRow
import Derived.Deep.Cut
import Derived.Deep.RegionHeld3
import Derived.Deep.CutRange
import Derived.RegionTactic
import Derived.Test.YtdagadcflignfaaB15
namespace Go.Proofs.Ytdagadcflignfaa
open Go.RowKit

theorem blk_lt {W : World} {b : Nat} {x : Obj} (h : W.heap[b]? = some x) : b < W.heap.size := by
  rcases Nat.lt_or_ge b W.heap.size with h1 | h1
  · exact h1
  · rw [Array.getElem?_eq_none h1] at h; cases h
theorem blkA (W : World) (x : Obj) {b : Nat} (h : W.heap.size = b) : (W.alloc x).heap[b]? = some x := by
  subst h
  exact heap_alloc_new W x
theorem blk_keep {W W1 : World} {b : Nat} {x : Obj} (hb : Below W.heap.size W W1) (h : W.heap[b]? = some x) : W1.heap[b]? = some x := (hb.block b (blk_lt h)).trans h
theorem blkUp {W : World} {b : Nat} {x : Obj} (h : W.heap[b]? = some x) (ob : Obj) : (W.alloc ob).heap[b]? = some x := blk_keep ((Below.refl _ W).alloc (Nat.le_refl _) ob) h
theorem row_of {W : World} {b : Nat} {R : Array Value} {t : TypeId} {fr : Nat × Nat} (h : W.heap[b]? = some (.cells R t fr)) : ∀ o, W.cell? ⟨b, o, none⟩ = R[o]? := fun o => cell_of_row W b o R t fr h
theorem frozen_of {W : World} {b : Nat} {R : Array Value} {t : TypeId} (h : W.heap[b]? = some (.cells R t (0, 0))) (o : Nat) : W.frozen? ⟨b, o, none⟩ = false := by simp [World.frozen?, h]
theorem wp_world {P : Program} {c : Code} {Q : Exit → Act → World → Prop} {a : Act} {w : World} (F : World → Prop) (hF : F w) (h : ∀ W, F W → c.wp P Q a W) : c.wp P Q a w := h w hF

theorem blk_set {W : World} {b g o : Nat} {x : Obj} {v : Value} (h : W.heap[b]? = some x) (hne : b ≠ g) : (W.setCell ⟨g, o, none⟩ v).heap[b]? = some x := by
  rw [Below.heap_setCell _ _ _ _ hne]
  exact h
theorem seta {W : World} {n : Nat} {t : TypeId} {a b v : Value} (h : W.heap[n]? = some (.cells #[a, b] t (0, 0))) : (W.setCell ⟨n, 0, none⟩ v).heap[n]? = some (.cells #[v, b] t (0, 0)) := by simp [World.setCell, Array.getElem?_modify, h]
theorem setb {W : World} {n : Nat} {t : TypeId} {a b v : Value} (h : W.heap[n]? = some (.cells #[a, b] t (0, 0))) : (W.setCell ⟨n, 1, none⟩ v).heap[n]? = some (.cells #[a, v] t (0, 0)) := by simp [World.setCell, Array.getElem?_modify, h]
/-- A pair is stored into a block: the block, all others. -/
theorem put2 {W WF : World} {n : Nat} {t : TypeId} {d0 d1 : Value} (h : W.heap[n]? = some (.cells #[d0, d1] t (0, 0))) (v0 v1 : Value) (hW : WF = (W.setCell ⟨n, 0, none⟩ v0).setCell ⟨n, 1, none⟩ v1) :
    WF.heap[n]? = some (.cells #[v0, v1] t (0, 0)) ∧ (∀ (b : Nat) (x : Obj), b ≠ n → W.heap[b]? = some x → WF.heap[b]? = some x) ∧ (∀ B, B ≤ n → Below B W WF) ∧ WF.heap.size = W.heap.size := by
  subst hW
  refine ⟨by simp [World.setCell, Array.getElem?_modify, h], fun b x hb hx => blk_set (blk_set hx hb) hb, fun B hB => ?_, by simp [World.setCell]⟩
  exact ((Below.refl _ W).setCell (p := ⟨n, 0, none⟩) hB v0).setCell (p := ⟨n, 1, none⟩) hB v1

/-- The empty one is from 1 to 0. -/
def nrm (l h : Int) : Int × Int := if h < l then (1, 0) else (l, h)
/-- The greater one, the lesser one: as the language's words reckon them. -/
def mx (x y : Int) : Int := if x < y then y else x
def mn (x y : Int) : Int := if y < x then y else x
/-- Those from one to another one that a variable may be. -/
def ofP (l h : Int) : Int × Int := nrm (mx l (-2147483648)) (mn h 2147483647)

theorem empty_any (l h : Int) (w : World) :
    Calls Try.prog 51 #[.agg #[.int .i64 l, .int .i64 h]] w fun e w' => e = .returned (.bool (decide (h < l))) ∧ Below w.heap.size w w' := by
  go_enter Try.func51, Try.ntmps51
  go_wp2
  go_ret
  exact ⟨by simp, by go_grown⟩

theorem none_any (w : World) :
    Calls Try.prog 48 #[] w fun e w' => e = .returned (.agg #[.int .i64 1, .int .i64 0]) ∧ Below w.heap.size w w' := by
  go_enter Try.func48, Try.ntmps48
  go_wp2
  exact bodyPost_ret (v := .agg #[.int .i64 1, .int .i64 0]) (by simp [results, Try.results48, go_sem]) rfl ⟨rfl, by go_grown⟩

theorem wrap_in (l : Int) : -2147483648 ≤ wrap32 l ∧ wrap32 l ≤ 2147483647 := by unfold wrap32; omega
theorem wrap_wrap (l : Int) : wrap64 (wrap32 l) = wrap32 l := by unfold wrap64 wrap32; omega

theorem has_any (l h n : Int) (w : World) :
    Calls Try.prog 59 #[.agg #[.int .i64 l, .int .i64 h], .int .i64 n] w fun e w' => e = .returned (.bool (decide (l ≤ n ∧ n ≤ h))) ∧ Below w.heap.size w w' := by
  by_cases hc : l ≤ n
  · have hd := decide_eq_true hc
    go_enter Try.func59, Try.ntmps59
    go_wp2
    go_ret
    exact ⟨by simp [hc], by go_grown⟩
  · have hd := decide_eq_false hc
    go_enter Try.func59, Try.ntmps59
    go_wp2
    go_ret
    exact ⟨by simp, by go_grown⟩

theorem of_gen (l h L H : Int) (hL : (if l < -2147483648 then -2147483648 else l) = L) (hH : (if 2147483647 < h then 2147483647 else h) = H) (w : World) :
    Calls Try.prog 53 #[.int .i64 l, .int .i64 h] w fun e w' => e = .returned (.agg #[.int .i64 (nrm L H).1, .int .i64 (nrm L H).2]) ∧ Below w.heap.size w w' := by
  go_enter Try.func53, Try.ntmps53
  go_upto_region 2 with fail
  refine wp_world (fun W => W.heap[w.heap.size]? = some (.cells #[.int .i64 0, .int .i64 0] 82 (0, 0)) ∧ W.heap[w.heap.size + 1]? = some (.cells #[.int .i64 L, .int .i64 H] 82 (0, 0)) ∧ Below w.heap.size w W) ⟨blkUp (blkA _ _ rfl) _, blkA _ _ (by simp), ((Below.refl _ _).alloc (Nat.le_refl _) _).alloc (by simp) _⟩ ?_
  clear hL hH
  rintro w1 ⟨k0, k1, hB1⟩
  have z0 := blk_lt k0
  have z1 := blk_lt k1
  have r1 := row_of k1
  go_wp2_with fail
  refine (empty_any _ _ _).mono ?_
  rintro e w2 ⟨rfl, hb2⟩
  replace k0 := blk_keep hb2 k0
  replace k1 := blk_keep hb2 k1
  have hB2 := hB1.trans (hb2.mono hB1.size)
  clear hb2 hB1 r1 z0 z1
  have r0 := row_of k0
  have r1 := row_of k1
  have f0 := frozen_of k0
  have z0 := blk_lt k0
  have z1 := blk_lt k1
  by_cases hc : H < L
  · have hd := decide_eq_true hc
    go_wp2_with fail
    refine (none_any _).mono ?_
    rintro e w3 ⟨rfl, hb3⟩
    replace k0 := blk_keep hb3 k0
    have hB3 := hB2.trans (hb3.mono hB2.size)
    clear hb3 hB2 r0 r1 z0 z1 k1 f0
    have r0 := row_of k0
    have f0 := frozen_of k0
    have z0 := blk_lt k0
    go_wp2_with fail
    generalize hWF : (World.setCell (World.setCell _ _ _) _ _) = WF
    obtain ⟨kF, _, bF, _⟩ := put2 k0 _ _ hWF.symm
    clear hWF
    have rF := row_of kF
    exact bodyPost_ret (v := .agg #[.int .i64 (nrm L H).1, .int .i64 (nrm L H).2]) (by simp [results, Try.results53, go_sem, rF, nrm, hc]) rfl ⟨rfl, hB3.trans (bF _ (Nat.le_refl _))⟩
  · have hd := decide_eq_false hc
    have hn : nrm L H = (L, H) := if_neg hc
    go_wp2_with fail
    generalize hWF : (World.setCell (World.setCell _ _ _) _ _) = WF
    obtain ⟨kF, _, bF, _⟩ := put2 k0 _ _ hWF.symm
    clear hWF
    have rF := row_of kF
    exact bodyPost_ret (v := .agg #[.int .i64 L, .int .i64 H]) (by simp [results, Try.results53, go_sem, rF]) rfl ⟨by rw [hn], hB2.trans (bF _ (Nat.le_refl _))⟩

theorem of_any (l h : Int) (w : World) :
    Calls Try.prog 53 #[.int .i64 l, .int .i64 h] w fun e w' => e = .returned (.agg #[.int .i64 (ofP l h).1, .int .i64 (ofP l h).2]) ∧ Below w.heap.size w w' := of_gen l h _ _ rfl rfl w
theorem const_any (n : Int) (w : World) :
    Calls Try.prog 25 #[.int .i64 n] w fun e w' => e = .returned (.agg #[.int .i64 (ofP n n).1, .int .i64 (ofP n n).2]) ∧ Below w.heap.size w w' := by
  go_enter Try.func25, Try.ntmps25
  go_upto_region 1 with fail
  refine wp_world (fun W => W.heap[w.heap.size]? = some (.cells #[.int .i64 0, .int .i64 0] 82 (0, 0)) ∧ Below w.heap.size w W) ⟨blkA _ _ rfl, (Below.refl _ _).alloc (Nat.le_refl _) _⟩ ?_
  rintro w1 ⟨k0, hB1⟩
  go_wp2_with fail
  refine (of_any _ _ _).mono ?_
  rintro e w2 ⟨rfl, hb2⟩
  replace k0 := blk_keep hb2 k0
  have hB2 := hB1.trans (hb2.mono hB1.size)
  have r0 := row_of k0
  have f0 := frozen_of k0
  have z0 := blk_lt k0
  go_wp2_with fail
  generalize hWF : (World.setCell (World.setCell _ _ _) _ _) = WF
  obtain ⟨kF, _, bF, _⟩ := put2 k0 _ _ hWF.symm
  clear hWF
  have rF := row_of kF
  exact bodyPost_ret (v := .agg #[.int .i64 (ofP n n).1, .int .i64 (ofP n n).2]) (by simp [results, Try.results25, go_sem, rF]) rfl ⟨rfl, hB2.trans (bF _ (Nat.le_refl _))⟩
end Go.Proofs.Ytdagadcflignfaa
namespace Go.Proofs.Ytdagadcflignfaa
open Go.RowKit

def withinB (a0 a1 b0 b1 : Int) : Bool := decide (a1 < a0) || (decide (b0 ≤ a0) && decide (a1 ≤ b1))
def joinP (a0 a1 b0 b1 : Int) : Int × Int := if a1 < a0 then ofP b0 b1 else if b1 < b0 then ofP a0 a1 else ofP (mn a0 b0) (mx a1 b1)
def meetP (a0 a1 b0 b1 : Int) : Int × Int := ofP (mx a0 b0) (mn a1 b1)
def widenP (a0 a1 b0 b1 : Int) : Int × Int := if a1 < a0 ∨ b1 < b0 then joinP a0 a1 b0 b1 else (if b0 < a0 then -2147483648 else (joinP a0 a1 b0 b1).1, if a1 < b1 then 2147483647 else (joinP a0 a1 b0 b1).2)
def narrowP (a0 a1 b0 b1 : Int) : Int × Int := if a1 < a0 ∨ b1 < b0 then (1, 0) else ofP (if a0 = -2147483648 then b0 else a0) (if a1 = 2147483647 then b1 else a1)
def rjoinP (a0 a1 b0 b1 : Int) : Int × Int := if a1 < a0 then nrm b0 b1 else if b1 < b0 then (a0, a1) else (mn a0 b0, mx a1 b1)
def rwidenP (a0 a1 b0 b1 : Int) : Int × Int := if a1 < a0 then nrm b0 b1 else if b1 < b0 then (a0, a1) else (if b0 < a0 then -2147483648 else a0, if a1 < b1 then 2147483647 else a1)
def rnarrowP (a0 a1 b0 b1 : Int) : Int × Int := if a1 < a0 ∨ b1 < b0 then (1, 0) else nrm (if a0 = -2147483648 then b0 else a0) (if a1 = 2147483647 then b1 else a1)

theorem join_1 (a0 a1 b0 b1 : Int) (w : World) (h : a1 < a0) :
    Calls Try.prog 55 #[.agg #[.int .i64 a0, .int .i64 a1], .agg #[.int .i64 b0, .int .i64 b1]] w fun e w' => e = .returned (.agg #[.int .i64 (ofP b0 b1).1, .int .i64 (ofP b0 b1).2]) ∧ Below w.heap.size w w' := by
  go_enter Try.func55, Try.ntmps55
  go_upto_region 1 with fail
  refine wp_world (fun W => W.heap[w.heap.size]? = some (.cells #[.int .i64 a0, .int .i64 a1] 82 (0, 0)) ∧ W.heap[w.heap.size + 1]? = some (.cells #[.int .i64 b0, .int .i64 b1] 82 (0, 0)) ∧ W.heap[w.heap.size + 2]? = some (.cells #[.int .i64 0, .int .i64 0] 82 (0, 0)) ∧ Below w.heap.size w W) ⟨blkUp (blkUp (blkA _ _ (by first | rfl | simp only [World.size_alloc])) _) _, blkUp (blkA _ _ (by first | rfl | simp only [World.size_alloc])) _, blkA _ _ (by first | rfl | simp only [World.size_alloc]), (((Below.refl _ _).alloc (by first | exact Nat.le_refl _ | (simp only [World.size_alloc]; omega)) _).alloc (by first | exact Nat.le_refl _ | (simp only [World.size_alloc]; omega)) _).alloc (by first | exact Nat.le_refl _ | (simp only [World.size_alloc]; omega)) _⟩ ?_
  rintro w1 ⟨k0, k1, k2, hB⟩
  have r0 := row_of k0
  have f0 := frozen_of k0
  have z0 := blk_lt k0
  have r1 := row_of k1
  have f1 := frozen_of k1
  have z1 := blk_lt k1
  have r2 := row_of k2
  have f2 := frozen_of k2
  have z2 := blk_lt k2
  have hd : decide (a1 < a0) = true := by simp; omega
  go_wp2_with fail
  refine (empty_any _ _ _).mono ?_
  rintro e w2 ⟨rfl, hb⟩
  replace k0 := blk_keep hb k0
  replace k1 := blk_keep hb k1
  replace k2 := blk_keep hb k2
  replace hB := hB.trans (hb.mono hB.size)
  clear r0 f0 z0 r1 f1 z1 r2 f2 z2
  clear hb
  have r0 := row_of k0
  have f0 := frozen_of k0
  have z0 := blk_lt k0
  have r1 := row_of k1
  have f1 := frozen_of k1
  have z1 := blk_lt k1
  have r2 := row_of k2
  have f2 := frozen_of k2
  have z2 := blk_lt k2
  go_wp2_with fail
  refine (of_any _ _ _).mono ?_
  rintro e w3 ⟨rfl, hb⟩
  replace k0 := blk_keep hb k0
  replace k1 := blk_keep hb k1
  replace k2 := blk_keep hb k2
  replace hB := hB.trans (hb.mono hB.size)
  clear r0 f0 z0 r1 f1 z1 r2 f2 z2
  clear hb
  have r0 := row_of k0
  have f0 := frozen_of k0
  have z0 := blk_lt k0
  have r1 := row_of k1
  have f1 := frozen_of k1
  have z1 := blk_lt k1
  have r2 := row_of k2
  have f2 := frozen_of k2
  have z2 := blk_lt k2
  go_wp2_with fail
  generalize hWF : (World.setCell (World.setCell _ _ _) _ _) = WF
  obtain ⟨kF, _, bF, _⟩ := put2 k2 _ _ hWF.symm
  clear r0 f0 z0 r1 f1 z1 r2 f2 z2
  clear hWF
  have rF := row_of kF
  exact bodyPost_ret (v := .agg #[.int .i64 (ofP b0 b1).1, .int .i64 (ofP b0 b1).2]) (by simp [results, Try.results55, go_sem, rF]) rfl ⟨rfl, hB.trans (bF _ (by show w.heap.size ≤ w.heap.size + 2; omega))⟩
theorem join_2 (a0 a1 b0 b1 : Int) (w : World) (h : a0 ≤ a1) (h2 : b1 < b0) :
    Calls Try.prog 55 #[.agg #[.int .i64 a0, .int .i64 a1], .agg #[.int .i64 b0, .int .i64 b1]] w fun e w' => e = .returned (.agg #[.int .i64 (ofP a0 a1).1, .int .i64 (ofP a0 a1).2]) ∧ Below w.heap.size w w' := by
  go_enter Try.func55, Try.ntmps55
  go_upto_region 1 with fail
  refine wp_world (fun W => W.heap[w.heap.size]? = some (.cells #[.int .i64 a0, .int .i64 a1] 82 (0, 0)) ∧ W.heap[w.heap.size + 1]? = some (.cells #[.int .i64 b0, .int .i64 b1] 82 (0, 0)) ∧ W.heap[w.heap.size + 2]? = some (.cells #[.int .i64 0, .int .i64 0] 82 (0, 0)) ∧ Below w.heap.size w W) ⟨blkUp (blkUp (blkA _ _ (by first | rfl | simp only [World.size_alloc])) _) _, blkUp (blkA _ _ (by first | rfl | simp only [World.size_alloc])) _, blkA _ _ (by first | rfl | simp only [World.size_alloc]), (((Below.refl _ _).alloc (by first | exact Nat.le_refl _ | (simp only [World.size_alloc]; omega)) _).alloc (by first | exact Nat.le_refl _ | (simp only [World.size_alloc]; omega)) _).alloc (by first | exact Nat.le_refl _ | (simp only [World.size_alloc]; omega)) _⟩ ?_
  rintro w1 ⟨k0, k1, k2, hB⟩
  have r0 := row_of k0
  have f0 := frozen_of k0
  have z0 := blk_lt k0
  have r1 := row_of k1
  have f1 := frozen_of k1
  have z1 := blk_lt k1
  have r2 := row_of k2
  have f2 := frozen_of k2
  have z2 := blk_lt k2
  have hd : decide (a1 < a0) = false := by simp; omega
  have hd2 : decide (b1 < b0) = true := by simp; omega
  go_wp2_with fail
  refine (empty_any _ _ _).mono ?_
  rintro e w2 ⟨rfl, hb⟩
  replace k0 := blk_keep hb k0
  replace k1 := blk_keep hb k1
  replace k2 := blk_keep hb k2
  replace hB := hB.trans (hb.mono hB.size)
  clear r0 f0 z0 r1 f1 z1 r2 f2 z2
  clear hb
  have r0 := row_of k0
  have f0 := frozen_of k0
  have z0 := blk_lt k0
  have r1 := row_of k1
  have f1 := frozen_of k1
  have z1 := blk_lt k1
  have r2 := row_of k2
  have f2 := frozen_of k2
  have z2 := blk_lt k2
  go_wp2_with fail
  refine (empty_any _ _ _).mono ?_
  rintro e w3 ⟨rfl, hb⟩
  replace k0 := blk_keep hb k0
  replace k1 := blk_keep hb k1
  replace k2 := blk_keep hb k2
  replace hB := hB.trans (hb.mono hB.size)
  clear r0 f0 z0 r1 f1 z1 r2 f2 z2
  clear hb
  have r0 := row_of k0
  have f0 := frozen_of k0
  have z0 := blk_lt k0
  have r1 := row_of k1
  have f1 := frozen_of k1
  have z1 := blk_lt k1
  have r2 := row_of k2
  have f2 := frozen_of k2
  have z2 := blk_lt k2
  go_wp2_with fail
  refine (of_any _ _ _).mono ?_
  rintro e w4 ⟨rfl, hb⟩
  replace k0 := blk_keep hb k0
  replace k1 := blk_keep hb k1
  replace k2 := blk_keep hb k2
  replace hB := hB.trans (hb.mono hB.size)
  clear r0 f0 z0 r1 f1 z1 r2 f2 z2
  clear hb
  have r0 := row_of k0
  have f0 := frozen_of k0
  have z0 := blk_lt k0
  have r1 := row_of k1
  have f1 := frozen_of k1
  have z1 := blk_lt k1
  have r2 := row_of k2
  have f2 := frozen_of k2
  have z2 := blk_lt k2
  go_wp2_with fail
  generalize hWF : (World.setCell (World.setCell _ _ _) _ _) = WF
  obtain ⟨kF, _, bF, _⟩ := put2 k2 _ _ hWF.symm
  clear r0 f0 z0 r1 f1 z1 r2 f2 z2
  clear hWF
  have rF := row_of kF
  exact bodyPost_ret (v := .agg #[.int .i64 (ofP a0 a1).1, .int .i64 (ofP a0 a1).2]) (by simp [results, Try.results55, go_sem, rF]) rfl ⟨rfl, hB.trans (bF _ (by show w.heap.size ≤ w.heap.size + 2; omega))⟩
theorem join_3 (a0 a1 b0 b1 : Int) (w : World) (h : a0 ≤ a1) (h2 : b0 ≤ b1) :
    Calls Try.prog 55 #[.agg #[.int .i64 a0, .int .i64 a1], .agg #[.int .i64 b0, .int .i64 b1]] w fun e w' => e = .returned (.agg #[.int .i64 (ofP (mn a0 b0) (mx a1 b1)).1, .int .i64 (ofP (mn a0 b0) (mx a1 b1)).2]) ∧ Below w.heap.size w w' := by
  go_enter Try.func55, Try.ntmps55
  go_upto_region 1 with fail
  refine wp_world (fun W => W.heap[w.heap.size]? = some (.cells #[.int .i64 a0, .int .i64 a1] 82 (0, 0)) ∧ W.heap[w.heap.size + 1]? = some (.cells #[.int .i64 b0, .int .i64 b1] 82 (0, 0)) ∧ W.heap[w.heap.size + 2]? = some (.cells #[.int .i64 0, .int .i64 0] 82 (0, 0)) ∧ Below w.heap.size w W) ⟨blkUp (blkUp (blkA _ _ (by first | rfl | simp only [World.size_alloc])) _) _, blkUp (blkA _ _ (by first | rfl | simp only [World.size_alloc])) _, blkA _ _ (by first | rfl | simp only [World.size_alloc]), (((Below.refl _ _).alloc (by first | exact Nat.le_refl _ | (simp only [World.size_alloc]; omega)) _).alloc (by first | exact Nat.le_refl _ | (simp only [World.size_alloc]; omega)) _).alloc (by first | exact Nat.le_refl _ | (simp only [World.size_alloc]; omega)) _⟩ ?_
  rintro w1 ⟨k0, k1, k2, hB⟩
  have r0 := row_of k0
  have f0 := frozen_of k0
  have z0 := blk_lt k0
  have r1 := row_of k1
  have f1 := frozen_of k1
  have z1 := blk_lt k1
  have r2 := row_of k2
  have f2 := frozen_of k2
  have z2 := blk_lt k2
  have hd : decide (a1 < a0) = false := by simp; omega
  have hd2 : decide (b1 < b0) = false := by simp; omega
  go_wp2_with fail
  refine (empty_any _ _ _).mono ?_
  rintro e w2 ⟨rfl, hb⟩
  replace k0 := blk_keep hb k0
  replace k1 := blk_keep hb k1
  replace k2 := blk_keep hb k2
  replace hB := hB.trans (hb.mono hB.size)
  clear r0 f0 z0 r1 f1 z1 r2 f2 z2
  clear hb
  have r0 := row_of k0
  have f0 := frozen_of k0
  have z0 := blk_lt k0
  have r1 := row_of k1
  have f1 := frozen_of k1
  have z1 := blk_lt k1
  have r2 := row_of k2
  have f2 := frozen_of k2
  have z2 := blk_lt k2
  go_wp2_with fail
  refine (empty_any _ _ _).mono ?_
  rintro e w3 ⟨rfl, hb⟩
  replace k0 := blk_keep hb k0
  replace k1 := blk_keep hb k1
  replace k2 := blk_keep hb k2
  replace hB := hB.trans (hb.mono hB.size)
  clear r0 f0 z0 r1 f1 z1 r2 f2 z2
  clear hb
  have r0 := row_of k0
  have f0 := frozen_of k0
  have z0 := blk_lt k0
  have r1 := row_of k1
  have f1 := frozen_of k1
  have z1 := blk_lt k1
  have r2 := row_of k2
  have f2 := frozen_of k2
  have z2 := blk_lt k2
  have hm : (if b0 < a0 then b0 else a0) = mn a0 b0 := rfl
  have hM : (if a1 < b1 then b1 else a1) = mx a1 b1 := rfl
  go_wp2_with fail
  refine (of_any _ _ _).mono ?_
  rintro e w4 ⟨rfl, hb⟩
  replace k0 := blk_keep hb k0
  replace k1 := blk_keep hb k1
  replace k2 := blk_keep hb k2
  replace hB := hB.trans (hb.mono hB.size)
  clear r0 f0 z0 r1 f1 z1 r2 f2 z2
  clear hb
  have r0 := row_of k0
  have f0 := frozen_of k0
  have z0 := blk_lt k0
  have r1 := row_of k1
  have f1 := frozen_of k1
  have z1 := blk_lt k1
  have r2 := row_of k2
  have f2 := frozen_of k2
  have z2 := blk_lt k2
  go_wp2_with fail
  generalize hWF : (World.setCell (World.setCell _ _ _) _ _) = WF
  obtain ⟨kF, _, bF, _⟩ := put2 k2 _ _ hWF.symm
  clear r0 f0 z0 r1 f1 z1 r2 f2 z2
  clear hWF
  have rF := row_of kF
  exact bodyPost_ret (v := .agg #[.int .i64 (ofP (mn a0 b0) (mx a1 b1)).1, .int .i64 (ofP (mn a0 b0) (mx a1 b1)).2]) (by simp [results, Try.results55, go_sem, rF]) rfl ⟨rfl, hB.trans (bF _ (by show w.heap.size ≤ w.heap.size + 2; omega))⟩
theorem join_any (a0 a1 b0 b1 : Int) (w : World) :
    Calls Try.prog 55 #[.agg #[.int .i64 a0, .int .i64 a1], .agg #[.int .i64 b0, .int .i64 b1]] w fun e w' => e = .returned (.agg #[.int .i64 (joinP a0 a1 b0 b1).1, .int .i64 (joinP a0 a1 b0 b1).2]) ∧ Below w.heap.size w w' := by
  unfold joinP
  by_cases h : a1 < a0
  · simpa [h] using join_1 a0 a1 b0 b1 w h
  · by_cases h2 : b1 < b0
    · simpa [h, h2] using join_2 a0 a1 b0 b1 w (by omega) h2
    · simpa [h, h2] using join_3 a0 a1 b0 b1 w (by omega) (by omega)
end Go.Proofs.Ytdagadcflignfaa
namespace Go.Proofs.Ytdagadcflignfaa
open Go.RowKit
/-- Two pairs are stored, each into a block. -/
theorem put22 {W WF : World} {n m : Nat} {t u : TypeId} {d0 d1 c0 c1 : Value} (hne : n ≠ m) (h : W.heap[n]? = some (.cells #[d0, d1] t (0, 0))) (g : W.heap[m]? = some (.cells #[c0, c1] u (0, 0))) (v0 v1 u0 u1 : Value) (hW : WF = (((W.setCell ⟨n, 0, none⟩ v0).setCell ⟨n, 1, none⟩ v1).setCell ⟨m, 0, none⟩ u0).setCell ⟨m, 1, none⟩ u1) :
    WF.heap[n]? = some (.cells #[v0, v1] t (0, 0)) ∧ WF.heap[m]? = some (.cells #[u0, u1] u (0, 0)) ∧ (∀ B, B ≤ n → B ≤ m → Below B W WF) := by
  obtain ⟨h1, h2, h3, _⟩ := put2 h v0 v1 rfl
  have g1 := h2 m _ (Ne.symm hne) g
  obtain ⟨g2, g3, g4, _⟩ := put2 g1 u0 u1 hW
  exact ⟨g3 n _ hne h1, g2, fun B b1 b2 => (h3 B b1).trans (g4 B b2)⟩

def bot (f : Int → Int → Int) (a0 a1 b0 b1 : Int) : Int := mn (mn (mn (f a0 b0) (f a0 b1)) (f a1 b0)) (f a1 b1)
def top (f : Int → Int → Int) (a0 a1 b0 b1 : Int) : Int := mx (mx (mx (f a0 b0) (f a0 b1)) (f a1 b0)) (f a1 b1)
def FnOk (n : Nat) (f : Int → Int → Int) (a0 a1 b0 b1 : Int) : Prop := ∀ (x y : Int) (w : World), (x = a0 ∨ x = a1) → (y = b0 ∨ y = b1) → Calls Try.prog n #[.int .i64 x, .int .i64 y] w fun e w' => e = .returned (.int .i64 (f x y)) ∧ w = w'

end Go.Proofs.Ytdagadcflignfaa
namespace Go.Proofs.Ytdagadcflignfaa
open Go.RowKit
theorem nrm_in (l h : Int) (hh : l ≤ h) : nrm l h = (l, h) := if_neg (by omega)
theorem ofP_in (l h : Int) (h1 : -2147483648 ≤ l) (h2 : h ≤ 2147483647) (hh : l ≤ h) : ofP l h = (l, h) := by
  unfold ofP mx mn
  rw [nrm_in _ _ (by split <;> split <;> omega)]
  congr 1 <;> split <;> omega
theorem const_in (n : Int) (w : World) (h1 : -2147483648 ≤ n) (h2 : n ≤ 2147483647) :
    Calls Try.prog 25 #[.int .i64 n] w fun e w' => e = .returned (.agg #[.int .i64 n, .int .i64 n]) ∧ Below w.heap.size w w' := by
  have h := const_any n w
  rwa [ofP_in n n h1 h2 (Int.le_refl n)] at h
theorem of_in (l h : Int) (w : World) (h1 : -2147483648 ≤ l) (h2 : h ≤ 2147483647) (hh : l ≤ h) :
    Calls Try.prog 53 #[.int .i64 l, .int .i64 h] w fun e w' => e = .returned (.agg #[.int .i64 l, .int .i64 h]) ∧ Below w.heap.size w w' := by
  have h := of_any l h w
  rwa [ofP_in l _ h1 h2 hh] at h

/-- Two cells of a block, and how many blocks there are. -/
theorem cells_keep {n m : Nat} {a b : Value} {W W' : World} (h : W.cell? ⟨n, 0, none⟩ = some a ∧ W.cell? ⟨n, 1, none⟩ = some b ∧ n + m + 1 ≤ W.heap.size) (hB : Below W.heap.size W W') : W'.cell? ⟨n, 0, none⟩ = some a ∧ W'.cell? ⟨n, 1, none⟩ = some b ∧ n + m + 1 ≤ W'.heap.size :=
  ⟨(hB.cell (p := ⟨n, 0, none⟩) (by show n < _; omega)).trans h.1, (hB.cell (p := ⟨n, 1, none⟩) (by show n < _; omega)).trans h.2.1, Nat.le_trans h.2.2 hB.size⟩
theorem cells_put {n m k : Nat} {a b u v : Value} {W : World} (h : W.cell? ⟨n, 0, none⟩ = some a ∧ W.cell? ⟨n, 1, none⟩ = some b ∧ n + m + 1 ≤ W.heap.size) (hk : n < k) : ((W.setCell ⟨k, 0, none⟩ u).setCell ⟨k, 1, none⟩ v).cell? ⟨n, 0, none⟩ = some a ∧ ((W.setCell ⟨k, 0, none⟩ u).setCell ⟨k, 1, none⟩ v).cell? ⟨n, 1, none⟩ = some b ∧ n + m + 1 ≤ ((W.setCell ⟨k, 0, none⟩ u).setCell ⟨k, 1, none⟩ v).heap.size := by
  have hB : Below k W ((W.setCell ⟨k, 0, none⟩ u).setCell ⟨k, 1, none⟩ v) := ((Below.refl _ W).setCell (p := ⟨k, 0, none⟩) (Nat.le_refl k) u).setCell (p := ⟨k, 1, none⟩) (Nat.le_refl k) v
  exact ⟨(hB.cell (p := ⟨n, 0, none⟩) hk).trans h.1, (hB.cell (p := ⟨n, 1, none⟩) hk).trans h.2.1, Nat.le_trans h.2.2 hB.size⟩

def S4 (n : Nat) (W : World) : Prop := W.cell? ⟨n, 0, none⟩ = some (.int .i64 2147483647) ∧ W.cell? ⟨n, 1, none⟩ = some (.int .i64 2147483647) ∧ W.cell? ⟨n + 1, 0, none⟩ = some (.bool true) ∧ W.cell? ⟨n + 1, 1, none⟩ = some (.bool false) ∧ n + 1 < W.heap.size
theorem cells4_keep {n : Nat} {W W' : World} (h : S4 n W) (hB : Below W.heap.size W W') : S4 n W' :=
  ⟨(hB.cell (p := ⟨n, 0, none⟩) (Nat.lt_of_succ_lt h.2.2.2.2)).trans h.1, (hB.cell (p := ⟨n, 1, none⟩) (Nat.lt_of_succ_lt h.2.2.2.2)).trans h.2.1, (hB.cell (p := ⟨n + 1, 0, none⟩) h.2.2.2.2).trans h.2.2.1, (hB.cell (p := ⟨n + 1, 1, none⟩) h.2.2.2.2).trans h.2.2.2.1, Nat.lt_of_lt_of_le h.2.2.2.2 hB.size⟩
end Go.Proofs.Ytdagadcflignfaa
namespace Go.Proofs.Ytdagadcflignfaa
open Go.RowKit

theorem below_undrew {W W' : World} (h : Below W.drew.heap.size W.drew W') : Below W.heap.size W W' := (Below.refl _ W).drew.trans h
theorem below_al {W0 W : World} (h : Below W0.heap.size W0 W) (x : Obj) : Below W0.heap.size W0 (W.alloc x) := h.alloc h.size x
theorem below_tr {W0 W W' : World} (h : Below W0.heap.size W0 W) (hb : Below W.heap.size W W') : Below W0.heap.size W0 W' := h.trans (hb.mono h.size)
theorem below_put {W0 W : World} {g : Nat} {u v : Value} (h : Below W0.heap.size W0 W) (hg : W0.heap.size ≤ g) : Below W0.heap.size W0 ((W.setCell ⟨g, 0, none⟩ u).setCell ⟨g, 1, none⟩ v) := (h.setCell (p := ⟨g, 0, none⟩) hg u).setCell (p := ⟨g, 1, none⟩) hg v
theorem blkT1 {W W' : World} {x : Obj} (h : Below (W.alloc x).heap.size (W.alloc x) W') : W'.heap[W.heap.size]? = some x := blk_keep h (blkA W x rfl)
theorem blkT2a {W W' : World} {x y : Obj} (h : Below ((W.alloc x).alloc y).heap.size ((W.alloc x).alloc y) W') : W'.heap[W.heap.size]? = some x := blk_keep h (blkUp (blkA W x rfl) y)
theorem blkT2b {W W' : World} {x y : Obj} (h : Below ((W.alloc x).alloc y).heap.size ((W.alloc x).alloc y) W') : W'.heap[W.heap.size + 1]? = some y := blk_keep h (blkA (W.alloc x) y (by simp only [World.size_alloc]))
theorem setab {W : World} {n : Nat} {t : TypeId} {a b u v : Value} (h : W.heap[n]? = some (.cells #[a, b] t (0, 0))) : ((W.setCell ⟨n, 0, none⟩ u).setCell ⟨n, 1, none⟩ v).heap[n]? = some (.cells #[u, v] t (0, 0)) := (put2 h u v rfl).1
theorem setno {W : World} {n g : Nat} {x : Obj} {u v : Value} (h : W.heap[n]? = some x) (hne : n ≠ g) : ((W.setCell ⟨g, 0, none⟩ u).setCell ⟨g, 1, none⟩ v).heap[n]? = some x := blk_set (blk_set h hne) hne
/-- Two new blocks of two cells; all that was there is as it was. -/
def TwoCut (W0 : World) (t u : TypeId) (a b c d : Value) (e5 e6 : Value) (wx : World) : Prop := ∃ n m : Nat, e5 = .pointer (some ⟨n, 0, none⟩) ∧ e6 = .pointer (some ⟨m, 0, none⟩) ∧ n ≠ m ∧ W0.heap.size ≤ n ∧ W0.heap.size ≤ m ∧ wx.heap[n]? = some (.cells #[a, b] t (0, 0)) ∧ wx.heap[m]? = some (.cells #[c, d] u (0, 0)) ∧ Below W0.heap.size W0 wx
theorem four_of {W0 : World} {n m : Nat} {a b c d : Value} {t u : TypeId} (h : W0.heap[n]? = some (.cells #[a, b] t (0, 0))) (g : W0.heap[m]? = some (.cells #[c, d] u (0, 0))) (W : World) (hB : Below W0.heap.size W0 W) :
    W.cell? ⟨n, 0, none⟩ = some a ∧ W.cell? ⟨n, 1, none⟩ = some b ∧ W.cell? ⟨m, 0, none⟩ = some c ∧ W.cell? ⟨m, 1, none⟩ = some d := by
  have h' := blk_keep hB h
  have g' := blk_keep hB g
  exact ⟨row_of h' 0, row_of h' 1, row_of g' 0, row_of g' 1⟩
end Go.Proofs.Ytdagadcflignfaa
namespace Go.Proofs.Ytdagadcflignfaa
open Go.RowKit
theorem tr_B {B : Nat} {W0 W W' : World} (h : Below B W0 W) (hz : B ≤ W0.heap.size) (hb : Below W.heap.size W W') : Below B W0 W' := h.trans (hb.mono (Nat.le_trans hz h.size))
theorem put_B {B g : Nat} {W0 W : World} {u v : Value} (h : Below B W0 W) (hg : B ≤ g) : Below B W0 ((W.setCell ⟨g, 0, none⟩ u).setCell ⟨g, 1, none⟩ v) := (h.setCell (p := ⟨g, 0, none⟩) hg u).setCell (p := ⟨g, 1, none⟩) hg v
theorem four_B {B : Nat} {W0 : World} {n m : Nat} {a b c d : Value} {t u : TypeId} (h : W0.heap[n]? = some (.cells #[a, b] t (0, 0))) (g : W0.heap[m]? = some (.cells #[c, d] u (0, 0))) (hn : n < B) (hm : m < B) (W : World) (hB : Below B W0 W) :
    W.cell? ⟨n, 0, none⟩ = some a ∧ W.cell? ⟨n, 1, none⟩ = some b ∧ W.cell? ⟨m, 0, none⟩ = some c ∧ W.cell? ⟨m, 1, none⟩ = some d := by
  have h' := (hB.block n hn).trans h
  have g' := (hB.block m hm).trans g
  exact ⟨row_of h' 0, row_of h' 1, row_of g' 0, row_of g' 1⟩
end Go.Proofs.Ytdagadcflignfaa
namespace Go.Proofs.Ytdagadcflignfaa
open Go.RowKit

theorem wr64 (x : Int) (h1 : -9223372036854775808 ≤ x) (h2 : x ≤ 9223372036854775807) : IntKind.i64.wrap x = x := by
  simp [IntKind.wrap, IntKind.bits, IntKind.signed]
  omega
/-- Of one number alone the others. -/
def unlikeP (a0 a1 b0 b1 : Int) : Int × Int := if b0 = b1 then (if b0 = a0 then ofP (a0 + 1) a1 else if b0 = a1 then ofP a0 (a1 - 1) else ofP a0 a1) else ofP a0 a1
def underA (a0 a1 _b0 b1 d : Int) : Int × Int := ofP a0 (mn a1 (b1 - d))
def underB (a0 _a1 b0 b1 d : Int) : Int × Int := ofP (mx b0 (a0 + d)) b1

end Go.Proofs.Ytdagadcflignfaa
namespace Go.Proofs.Ytdagadcflignfaa
open Go.RowKit
theorem take_at {P : Program} {ops : Array Oper} {Q : Exit → Act → World → Prop} {md : Region.Mode} {S : World → Prop} (i : Nat) (d : Option Tmp) {oi : Oper} {v : Value} {fuel : Nat} {listed : Array Bool} {a : Act} {w : World} (hi : ops[i]? = some oi) (hd : oi.dst = d)
    (hs : Region.noSelect ops = true) (hf : Region.free md ops listed i = true) (hr : (Region.ready md ops listed).contains i = true)
    (hQ : ∀ c a w, Q (.panic c) (a.put oi.dst v) w → Q (.panic c) a w) (hy : YieldsIf P ops S oi v a) (hS : S w)
    (h : wpAnyH P md ops Q S fuel (listed.setIfInBounds i true) (a.put d v) w) : wpAnyH P md ops Q S (fuel + 1) listed a w := by
  subst hd
  exact wpAnyH_take hi hs hf hr hQ hy hS h
theorem only_at {P : Program} {ops : Array Oper} {Q : Exit → Act → World → Prop} {md : Region.Mode} {S : World → Prop} (i : Nat) (d : Option Tmp) (p : Op) {oi : Oper} {fuel : Nat} {listed : Array Bool} {a : Act} {w : World} (hi : ops[i]? = some oi) (hd : oi.dst = d) (hp : oi.op = p)
    (hr : Region.ready md ops listed = [i]) (hw : Region.wanted oi (yielded ops a.tmps) = true)
    (h : ∀ K' : Act → World → Prop, Shut (∀ a w, S w → (S w → wpAnyH P md ops Q S fuel (listed.setIfInBounds i true) a w) → K' a w) → Oper.wp P { dst := d, op := p, type := oi.type, pos := oi.pos, after := oi.after, guard := oi.guard } a w K' Q) : wpAnyH P md ops Q S (fuel + 1) listed a w := by
  subst hd hp
  refine wpAnyH_ready hr (by simp) (AllReadyH.cons hi (fun K hK => ?_) AllReadyH.nil)
  rw [if_pos hw]
  exact h K hK
end Go.Proofs.Ytdagadcflignfaa
namespace Go.Proofs.Ytdagadcflignfaa
open Go.RowKit

theorem ofP_or (l h L H : Int) (e : ofP l h = (L, H)) : (L = 1 ∧ H = 0 ∧ (h < l ∨ h < -2147483648 ∨ 2147483647 < l)) ∨ (L ≤ H ∧ (L = l ∧ -2147483648 ≤ l ∨ L = -2147483648 ∧ l < -2147483648) ∧ (H = h ∧ h ≤ 2147483647 ∨ H = 2147483647 ∧ 2147483647 < h)) := by
  unfold ofP nrm mx mn at e
  by_cases h1 : l < -2147483648 <;> by_cases h2 : 2147483647 < h <;> simp only [h1, h2, if_true, if_false] at e <;> split at e <;> (injection e with e1 e2; omega)
theorem mn_or (x y : Int) : (mn x y = x ∧ x ≤ y) ∨ (mn x y = y ∧ y ≤ x) := by unfold mn; split <;> omega
theorem mx_or (x y : Int) : (mx x y = x ∧ y ≤ x) ∨ (mx x y = y ∧ x ≤ y) := by unfold mx; split <;> omega
/-- What edges wants of what Test told. -/
def Edg (ok : Int → Bool) (a0 a1 x0 x1 : Int) : Prop := (∀ n, a0 ≤ n → n ≤ a1 → ok n = true → x0 ≤ n ∧ n ≤ x1) ∧ (∀ n, a0 ≤ n → n ≤ a1 → (n = x0 ∨ n = x1) → x0 ≤ n ∧ n ≤ x1 → ok n = true) ∧ ((x0 = 1 ∧ x1 = 0) ∨ (x0 ≤ x1 ∧ a0 ≤ x0 ∧ x1 ≤ a1))
/-- Does a comparison of a number hold with some number from b0 to b1? -/
def okP (k b0 b1 n : Int) : Bool := if k = 1 then decide (b0 ≤ n ∧ n ≤ b1) else if k = 2 then (b0 != n || b1 != n) else if k = 3 then decide (n < b1) else if k = 4 then decide (n ≤ b1) else if k = 5 then decide (b0 < n) else decide (b0 ≤ n)
/-- What Test makes of the first one. -/
def testP (k a0 a1 b0 b1 : Int) : Int × Int := if k = 1 then meetP a0 a1 b0 b1 else if k = 2 then unlikeP a0 a1 b0 b1 else if k = 3 then underA a0 a1 b0 b1 1 else if k = 4 then underA a0 a1 b0 b1 0 else if k = 5 then underB b0 b1 a0 a1 1 else underB b0 b1 a0 a1 0
theorem edg_any (k a0 a1 b0 b1 : Int) (hk1 : 1 ≤ k) (hk6 : k ≤ 6) (ha : a0 ≤ a1) (hb : b0 ≤ b1) (r1 : -2147483648 ≤ a0) (r2 : a1 ≤ 2147483647) (r3 : -2147483648 ≤ b0) (r4 : b1 ≤ 2147483647) :
    Edg (okP k b0 b1) a0 a1 (testP k a0 a1 b0 b1).1 (testP k a0 a1 b0 b1).2 := by
  have hk : k = 1 ∨ k = 2 ∨ k = 3 ∨ k = 4 ∨ k = 5 ∨ k = 6 := by omega
  have key : ∀ (ok : Int → Prop) (l h x0 x1 : Int), ofP l h = (x0, x1) → (∀ n, a0 ≤ n → n ≤ a1 → (ok n ↔ l ≤ n ∧ n ≤ h)) → (a0 ≤ l) → (h ≤ a1) → 
      (∀ n, a0 ≤ n → n ≤ a1 → ok n → x0 ≤ n ∧ n ≤ x1) ∧ (∀ n, a0 ≤ n → n ≤ a1 → (n = x0 ∨ n = x1) → x0 ≤ n ∧ n ≤ x1 → ok n) ∧ ((x0 = 1 ∧ x1 = 0) ∨ (x0 ≤ x1 ∧ a0 ≤ x0 ∧ x1 ≤ a1)) := by
    intro ok l h x0 x1 e hok hl hh
    have t := ofP_or l h x0 x1 e
    refine ⟨fun n h1 h2 h3 => ?_, fun n h1 h2 h3 h4 => ?_, by omega⟩
    · have := (hok n h1 h2).1 h3; omega
    · exact (hok n h1 h2).2 (by omega)
  rcases hk with rfl | rfl | rfl | rfl | rfl | rfl
  · have := mx_or a0 b0
    have := mn_or a1 b1
    have t := key (fun n => okP 1 b0 b1 n = true) (mx a0 b0) (mn a1 b1) _ _ rfl (fun n h1 h2 => by simp [okP, -Int.sub_zero, -Int.add_zero]; omega) (by omega) (by omega)
    exact t
  · -- unlike
    unfold Edg testP unlikeP okP
    simp only [show (2 : Int) ≠ 1 from by decide, if_true, if_false]
    by_cases hbb : b0 = b1
    · subst hbb
      simp only [if_true]
      by_cases h0 : b0 = a0
      · subst h0
        simp only [if_true]
        exact key (fun n => (b0 != n || b0 != n) = true) (b0 + 1) a1 _ _ rfl (fun n h1 h2 => by simp; omega) (by omega) (by omega)
      · simp only [h0, if_false]
        by_cases h1 : b0 = a1
        · subst h1
          simp only [if_true]
          exact key (fun n => (b0 != n || b0 != n) = true) a0 (b0 - 1) _ _ rfl (fun n h1 h2 => by simp; omega) (by omega) (by omega)
        · simp only [h1, if_false]
          have t := ofP_or a0 a1 (ofP a0 a1).1 (ofP a0 a1).2 rfl
          refine ⟨fun n h1 h2 h3 => by omega, fun n h1 h2 h3 h4 => ?_, by omega⟩
          simp
          omega
    · simp only [hbb, if_false]
      have t := ofP_or a0 a1 (ofP a0 a1).1 (ofP a0 a1).2 rfl
      refine ⟨fun n h1 h2 h3 => by omega, fun n h1 h2 h3 h4 => ?_, by omega⟩
      simp
      omega
  · have := mn_or a1 (b1 - 1)
    exact key (fun n => okP 3 b0 b1 n = true) a0 (mn a1 (b1 - 1)) _ _ rfl (fun n h1 h2 => by simp [okP, -Int.sub_zero, -Int.add_zero]; omega) (by omega) (by omega)
  · have := mn_or a1 (b1 - 0)
    exact key (fun n => okP 4 b0 b1 n = true) a0 (mn a1 (b1 - 0)) _ _ rfl (fun n h1 h2 => by simp [okP, -Int.sub_zero, -Int.add_zero]; omega) (by omega) (by omega)
  · have := mx_or a0 (b0 + 1)
    exact key (fun n => okP 5 b0 b1 n = true) (mx a0 (b0 + 1)) a1 _ _ rfl (fun n h1 h2 => by simp [okP, -Int.sub_zero, -Int.add_zero]; omega) (by omega) (by omega)
  · have := mx_or a0 (b0 + 0)
    exact key (fun n => okP 6 b0 b1 n = true) (mx a0 (b0 + 0)) a1 _ _ rfl (fun n h1 h2 => by simp [okP, -Int.sub_zero, -Int.add_zero]; omega) (by omega) (by omega)
end Go.Proofs.Ytdagadcflignfaa
namespace Go.Proofs.Ytdagadcflignfaa
open Go.RowKit
theorem blkP (W : World) (g : Nat) (u v : Value) (x : Obj) : (((W.setCell ⟨g, 0, none⟩ u).setCell ⟨g, 1, none⟩ v).alloc x).heap[W.heap.size]? = some x := blkA _ _ (by simp [World.setCell])
end Go.Proofs.Ytdagadcflignfaa
namespace Go.Proofs.Ytdagadcflignfaa
open Go.RowKit

theorem bot_le (f : Int → Int → Int) (a0 a1 b0 b1 : Int) : bot f a0 a1 b0 b1 ≤ f a0 b0 ∧ bot f a0 a1 b0 b1 ≤ f a0 b1 ∧ bot f a0 a1 b0 b1 ≤ f a1 b0 ∧ bot f a0 a1 b0 b1 ≤ f a1 b1 := by
  unfold bot mn
  repeat' split
  all_goals omega
theorem le_top (f : Int → Int → Int) (a0 a1 b0 b1 : Int) : f a0 b0 ≤ top f a0 a1 b0 b1 ∧ f a0 b1 ≤ top f a0 a1 b0 b1 ∧ f a1 b0 ≤ top f a0 a1 b0 b1 ∧ f a1 b1 ≤ top f a0 a1 b0 b1 := by
  unfold top mx
  repeat' split
  all_goals omega
/-- What lies between two, whichever is the lesser one. -/
def Btw (x n y : Int) : Prop := (x ≤ n ∧ n ≤ y) ∨ (y ≤ n ∧ n ≤ x)
/-- The ends tell what is between. -/
theorem corner (f : Int → Int → Int) (a0 a1 b0 b1 x y : Int) (hx : Btw (f a0 y) (f x y) (f a1 y)) (h0 : Btw (f a0 b0) (f a0 y) (f a0 b1)) (h1 : Btw (f a1 b0) (f a1 y) (f a1 b1)) :
    bot f a0 a1 b0 b1 ≤ f x y ∧ f x y ≤ top f a0 a1 b0 b1 := by
  have l := bot_le f a0 a1 b0 b1
  have t := le_top f a0 a1 b0 b1
  unfold Btw at *
  omega
theorem mul_btw (a0 a1 x y : Int) (h0 : a0 ≤ x) (h1 : x ≤ a1) : Btw (a0 * y) (x * y) (a1 * y) := by
  rcases Int.le_total 0 y with hy | hy
  · exact .inl ⟨Int.mul_le_mul_of_nonneg_right h0 hy, Int.mul_le_mul_of_nonneg_right h1 hy⟩
  · exact .inr ⟨Int.mul_le_mul_of_nonpos_right h1 hy, Int.mul_le_mul_of_nonpos_right h0 hy⟩
theorem mul_in (a0 a1 b0 b1 x y : Int) (h0 : a0 ≤ x) (h1 : x ≤ a1) (g0 : b0 ≤ y) (g1 : y ≤ b1) : bot (fun x y => x * y) a0 a1 b0 b1 ≤ x * y ∧ x * y ≤ top (fun x y => x * y) a0 a1 b0 b1 := by
  refine corner (fun x y => x * y) a0 a1 b0 b1 x y (mul_btw a0 a1 x y h0 h1) ?_ ?_
  · have t := mul_btw b0 b1 y a0 g0 g1
    simp only [Int.mul_comm] at t ⊢
    exact t
  · have t := mul_btw b0 b1 y a1 g0 g1
    simp only [Int.mul_comm] at t ⊢
    exact t
/-- Quotients of what is not below nought. -/
theorem td_pos (x x' y y' : Int) (h0 : 0 ≤ x) (h1 : x ≤ x') (g0 : 0 < y') (g1 : y' ≤ y) : 0 ≤ x.tdiv y ∧ x.tdiv y ≤ x'.tdiv y' ∧ x.tdiv y ≤ x := by
  obtain ⟨X, rfl⟩ := Int.eq_ofNat_of_zero_le h0
  obtain ⟨X', rfl⟩ := Int.eq_ofNat_of_zero_le (Int.le_trans h0 h1)
  obtain ⟨Y', rfl⟩ := Int.eq_ofNat_of_zero_le (Int.le_of_lt g0)
  obtain ⟨Y, rfl⟩ := Int.eq_ofNat_of_zero_le (Int.le_trans (Int.le_of_lt g0) g1)
  have e1 : (X : Int).tdiv Y = ((X / Y : Nat) : Int) := rfl
  have e2 : (X' : Int).tdiv Y' = ((X' / Y' : Nat) : Int) := rfl
  rw [e1, e2]
  have t := Nat.div_le_div (a := X) (b := X') (c := Y) (d := Y') (by omega) (by omega) (by omega)
  have u := Nat.div_le_self X Y
  clear e1 e2
  generalize X / Y = q at *
  generalize X' / Y' = q' at *
  omega
theorem td_neg_l (x y : Int) : (-x).tdiv y = -(x.tdiv y) := Int.neg_tdiv ..
theorem td_neg_r (x y : Int) : x.tdiv (-y) = -(x.tdiv y) := Int.tdiv_neg ..
/-- By a number above nought: it rises with what is divided. -/
theorem td_mono (x x' y : Int) (h1 : x ≤ x') (g0 : 0 < y) : x.tdiv y ≤ x'.tdiv y := by
  by_cases hx : 0 ≤ x
  · exact (td_pos x x' y y hx h1 g0 (Int.le_refl _)).2.1
  · have t := td_pos 0 (-x) y y (by omega) (by omega) g0 (Int.le_refl _)
    have t2 := td_neg_l x y
    by_cases hx' : 0 ≤ x'
    · have u := td_pos x' x' y y hx' (Int.le_refl _) g0 (Int.le_refl _)
      omega
    · have v := td_pos (-x') (-x) y y (by omega) (by omega) g0 (Int.le_refl _)
      have v2 := td_neg_l x' y
      omega
theorem td_btw_x (a0 a1 x y : Int) (h0 : a0 ≤ x) (h1 : x ≤ a1) (hy : y ≠ 0) : Btw (a0.tdiv y) (x.tdiv y) (a1.tdiv y) := by
  by_cases g : 0 < y
  · exact .inl ⟨td_mono _ _ _ h0 g, td_mono _ _ _ h1 g⟩
  · have e : ∀ z : Int, z.tdiv y = -(z.tdiv (-y)) := fun z => by have := td_neg_r z (-y); rw [Int.neg_neg] at this; exact this
    rw [e a0, e x, e a1]
    have p := td_mono a0 x (-y) h0 (by omega)
    have q := td_mono x a1 (-y) h1 (by omega)
    exact .inr (by omega)
theorem td_btw_pos (x b0 b1 y : Int) (g : 0 < b0) (h0 : b0 ≤ y) (h1 : y ≤ b1) : Btw (x.tdiv b0) (x.tdiv y) (x.tdiv b1) := by
  by_cases hx : 0 ≤ x
  · exact .inr ⟨(td_pos x x b1 y hx (Int.le_refl _) (by omega) h1).2.1, (td_pos x x y b0 hx (Int.le_refl _) g h0).2.1⟩
  · have e : ∀ z : Int, x.tdiv z = -((-x).tdiv z) := fun z => by have := td_neg_l (-x) z; rw [Int.neg_neg] at this; exact this
    rw [e b0, e y, e b1]
    have p := (td_pos (-x) (-x) b1 y (by omega) (Int.le_refl _) (by omega) h1).2.1
    have q := (td_pos (-x) (-x) y b0 (by omega) (Int.le_refl _) g h0).2.1
    exact .inl (by omega)
theorem td_btw_y (x b0 b1 y : Int) (g : 0 < b0 ∨ b1 < 0) (h0 : b0 ≤ y) (h1 : y ≤ b1) : Btw (x.tdiv b0) (x.tdiv y) (x.tdiv b1) := by
  rcases g with g | g
  · exact td_btw_pos x b0 b1 y g h0 h1
  · have e : ∀ z : Int, x.tdiv z = -(x.tdiv (-z)) := fun z => by have := td_neg_r x (-z); rw [Int.neg_neg] at this; exact this
    rw [e b0, e y, e b1]
    have t := td_btw_pos x (-b1) (-b0) (-y) (by omega) (by omega) (by omega)
    unfold Btw at *
    omega
theorem quo_in (a0 a1 b0 b1 x y : Int) (g : 0 < b0 ∨ b1 < 0) (h0 : a0 ≤ x) (h1 : x ≤ a1) (g0 : b0 ≤ y) (g1 : y ≤ b1) : bot Int.tdiv a0 a1 b0 b1 ≤ x.tdiv y ∧ x.tdiv y ≤ top Int.tdiv a0 a1 b0 b1 :=
  corner Int.tdiv a0 a1 b0 b1 x y (td_btw_x a0 a1 x y h0 h1 (by omega)) (td_btw_y a0 b0 b1 y g g0 g1) (td_btw_y a1 b0 b1 y g g0 g1)
/-- A quotient is no farther from nought than what is divided. -/
theorem td_abs (x y : Int) (m : Int) (h0 : -m ≤ x) (h1 : x ≤ m) (hy : y ≠ 0) : -m ≤ x.tdiv y ∧ x.tdiv y ≤ m := by
  have p : ∀ z : Int, 0 < z → -m ≤ x.tdiv z ∧ x.tdiv z ≤ m := fun z hz => by
    by_cases hx : 0 ≤ x
    · have t := td_pos x x z z hx (Int.le_refl _) hz (Int.le_refl _); omega
    · have t := td_pos (-x) (-x) z z (by omega) (Int.le_refl _) hz (Int.le_refl _)
      have := td_neg_l x z
      omega
  by_cases g : 0 < y
  · exact p y g
  · have t := p (-y) (by omega)
    have := td_neg_r x y
    omega
/-- Rests. -/
theorem tm_pos (x y : Int) (h : 0 ≤ x) (g : 0 < y) : 0 ≤ x.tmod y ∧ x.tmod y < y ∧ x.tmod y ≤ x := by
  obtain ⟨X, rfl⟩ := Int.eq_ofNat_of_zero_le h
  obtain ⟨Y, rfl⟩ := Int.eq_ofNat_of_zero_le (Int.le_of_lt g)
  have e : (X : Int).tmod Y = ((X % Y : Nat) : Int) := rfl
  rw [e]
  have t := Nat.mod_lt X (y := Y) (by omega)
  have u := Nat.mod_le X Y
  clear e
  generalize X % Y = q at *
  omega
theorem tm_any (x y m : Int) (hy : y ≠ 0) (h0 : -m ≤ y) (h1 : y ≤ m) : -(m - 1) ≤ x.tmod y ∧ x.tmod y ≤ m - 1 ∧ ((0 ≤ x ∧ 0 ≤ x.tmod y ∧ x.tmod y ≤ x) ∨ (x ≤ 0 ∧ x ≤ x.tmod y ∧ x.tmod y ≤ 0)) := by
  have p : ∀ z : Int, 0 < z → z ≤ m → -(m - 1) ≤ x.tmod z ∧ x.tmod z ≤ m - 1 ∧ ((0 ≤ x ∧ 0 ≤ x.tmod z ∧ x.tmod z ≤ x) ∨ (x ≤ 0 ∧ x ≤ x.tmod z ∧ x.tmod z ≤ 0)) := fun z hz hm => by
    by_cases hx : 0 ≤ x
    · have t := tm_pos x z hx hz; omega
    · have t := tm_pos (-x) z (by omega) hz
      have e : (-x).tmod z = -(x.tmod z) := Int.neg_tmod ..
      omega
  by_cases g : 0 < y
  · exact p y g h1
  · have t := p (-y) (by omega) (by omega)
    have e : x.tmod (-y) = x.tmod y := Int.tmod_neg ..
    rw [e] at t
    exact t
theorem rest_eq (x y : Int) : x - x.tdiv y * y = x.tmod y := by
  have := Int.tmod_add_tdiv_mul x y
  omega
/-- What a kind makes of two numbers: the number, and which error. -/
def valP (k x y : Int) : Int := if k = 4 then x + y else if k = 5 then x - y else if k = 6 then x * y else if k = 7 then x.tdiv y else x - x.tdiv y * y
def errP (k x y : Int) : Int := if 7 ≤ k ∧ y = 0 then 3 else if valP k x y < -2147483648 ∨ 2147483647 < valP k x y then 2 else 0
def oneP (k x y : Int) : Int := if errP k x y = 0 then valP k x y else 0
theorem errP_or (k x y : Int) : (errP k x y = 3 ∧ 7 ≤ k ∧ y = 0) ∨ (errP k x y = 2 ∧ ¬ (7 ≤ k ∧ y = 0) ∧ (valP k x y < -2147483648 ∨ 2147483647 < valP k x y)) ∨ (errP k x y = 0 ∧ ¬ (7 ≤ k ∧ y = 0) ∧ -2147483648 ≤ valP k x y ∧ valP k x y ≤ 2147483647) := by
  unfold errP
  by_cases h : 7 ≤ k ∧ y = 0
  · rw [if_pos h]; exact .inl ⟨rfl, h⟩
  · rw [if_neg h]
    by_cases g : valP k x y < -2147483648 ∨ 2147483647 < valP k x y
    · rw [if_pos g]; exact .inr (.inl ⟨rfl, h, g⟩)
    · rw [if_neg g]; exact .inr (.inr ⟨rfl, h, by omega, by omega⟩)
/-- What Do tells of a kind and two Itvs, in words. -/
structure DoOk (k a0 a1 b0 b1 z0 z1 : Int) (ov dz : Bool) : Prop where
  norm : (z0 = 1 ∧ z1 = 0) ∨ (z0 ≤ z1 ∧ -2147483648 ≤ z0 ∧ z1 ≤ 2147483647)
  has : ∀ x y, a0 ≤ x → x ≤ a1 → b0 ≤ y → y ≤ b1 → errP k x y = 0 → z0 ≤ valP k x y ∧ valP k x y ≤ z1
  over : ∀ x y, a0 ≤ x → x ≤ a1 → b0 ≤ y → y ≤ b1 → errP k x y = 2 → ov = true
  zero : dz = (decide (7 ≤ k) && decide (b0 ≤ 0 ∧ 0 ≤ b1))
  sure : k ≤ 5 ∨ (a0 = a1 ∧ b0 = b1) → ov = true → ∃ x y, a0 ≤ x ∧ x ≤ a1 ∧ b0 ≤ y ∧ y ≤ b1 ∧ errP k x y = 2
  alone : a0 = a1 ∧ b0 = b1 → (errP k a0 b0 ≠ 0 → z0 = 1 ∧ z1 = 0) ∧ (errP k a0 b0 = 0 → z0 = valP k a0 b0 ∧ z1 = valP k a0 b0)
/-- From the ends' least and greatest one on. -/
theorem ends_ok (k a0 a1 b0 b1 L H z0 z1 : Int) (ov dz : Bool) (ha : a0 ≤ a1) (hb : b0 ≤ b1) (hz : dz = (decide (7 ≤ k) && decide (b0 ≤ 0 ∧ 0 ≤ b1))) (hk : k ≤ 6) (e : ofP L H = (z0, z1)) (ho : ov = (decide (L < -2147483648) || decide (2147483647 < H)))
    (hin : ∀ x y, a0 ≤ x → x ≤ a1 → b0 ≤ y → y ≤ b1 → L ≤ valP k x y ∧ valP k x y ≤ H)
    (hw : k ≤ 5 ∨ (a0 = a1 ∧ b0 = b1) → ∃ x y x' y', a0 ≤ x ∧ x ≤ a1 ∧ b0 ≤ y ∧ y ≤ b1 ∧ valP k x y = L ∧ a0 ≤ x' ∧ x' ≤ a1 ∧ b0 ≤ y' ∧ y' ≤ b1 ∧ valP k x' y' = H) : DoOk k a0 a1 b0 b1 z0 z1 ov dz := by
  have t := ofP_or L H z0 z1 e
  have e0 : ov = true ↔ L < -2147483648 ∨ 2147483647 < H := by rw [ho]; simp
  refine ⟨by omega, fun x y x0 x1 y0 y1 h => ?_, fun x y x0 x1 y0 y1 h => ?_, hz, fun hs ht => ?_, fun hal => ?_⟩
  · have u := hin x y x0 x1 y0 y1
    have v := errP_or k x y
    omega
  · have u := hin x y x0 x1 y0 y1
    have v := errP_or k x y
    exact e0.2 (by omega)
  · obtain ⟨x, y, x', y', g0, g1, g2, g3, g4, g5, g6, g7, g8, g9⟩ := hw hs
    rcases e0.1 ht with h | h
    · exact ⟨x, y, g0, g1, g2, g3, by have v := errP_or k x y; omega⟩
    · exact ⟨x', y', g5, g6, g7, g8, by have v := errP_or k x' y'; omega⟩
  · obtain ⟨x, y, x', y', g0, g1, g2, g3, g4, g5, g6, g7, g8, g9⟩ := hw (.inr hal)
    obtain ⟨rfl, rfl⟩ := hal
    obtain rfl : x = a0 := by omega
    obtain rfl : y = b0 := by omega
    obtain rfl : x' = x := by omega
    obtain rfl : y' = y := by omega
    clear hin hw e0 e ho hz
    have v := errP_or k x' y'
    exact ⟨fun h => by omega, fun h => by omega⟩
end Go.Proofs.Ytdagadcflignfaa
namespace Go.Proofs.Ytdagadcflignfaa
open Go.RowKit
theorem two_of {W : World} {n : Nat} {a b : Value} {t : TypeId} (h : W.heap[n]? = some (.cells #[a, b] t (0, 0))) : W.cell? ⟨n, 0, none⟩ = some a ∧ W.cell? ⟨n, 1, none⟩ = some b := ⟨row_of h 0, row_of h 1⟩
theorem blk_drew {W : World} {n : Nat} {x : Obj} (h : W.heap[n]? = some x) : W.drew.heap[n]? = some x := h

end Go.Proofs.Ytdagadcflignfaa
namespace Go.Proofs.Ytdagadcflignfaa
open Go.RowKit
theorem mxs_eq {x y z : Int} (h : (x < y ∧ z = y) ∨ (y ≤ x ∧ z = x)) : mx x y = z := by unfold mx; split <;> omega
theorem mns_eq {x y z : Int} (h : (y < x ∧ z = y) ∨ (x ≤ y ∧ z = x)) : mn x y = z := by unfold mn; split <;> omega
theorem mxs (x y : Int) : (x < y ∧ mx x y = y) ∨ (y ≤ x ∧ mx x y = x) := by unfold mx; split <;> omega
theorem mns (x y : Int) : (y < x ∧ mn x y = y) ∨ (x ≤ y ∧ mn x y = x) := by unfold mn; split <;> omega
theorem nrms (l h : Int) : (h < l ∧ (nrm l h).1 = 1 ∧ (nrm l h).2 = 0) ∨ (l ≤ h ∧ (nrm l h).1 = l ∧ (nrm l h).2 = h) := by
  unfold nrm
  by_cases hc : h < l
  · rw [if_pos hc]; exact .inl ⟨hc, rfl, rfl⟩
  · rw [if_neg hc]; exact .inr ⟨by omega, rfl, rfl⟩
theorem ofP_nrm {l h : Int} (l1 : -2147483648 ≤ l) (h2 : h ≤ 2147483647) : ofP l h = nrm l h := by
  unfold ofP
  rw [mxs_eq (z := l) (by omega), mns_eq (z := h) (by omega)]
theorem withins {a0 a1 b0 b1 : Int} (h : a1 < a0 ∨ (b0 ≤ a0 ∧ a1 ≤ b1)) : withinB a0 a1 b0 b1 = true := by
  unfold withinB
  rcases h with h | h
  · simp [h]
  · simp [h.1, h.2]
theorem join_eq {a0 a1 b0 b1 : Int} (r1 : -2147483648 ≤ a0) (r2 : a1 ≤ 2147483647) (r3 : -2147483648 ≤ b0) (r4 : b1 ≤ 2147483647) : joinP a0 a1 b0 b1 = rjoinP a0 a1 b0 b1 := by
  unfold joinP rjoinP
  by_cases h : a1 < a0
  · rw [if_pos h, if_pos h]; exact ofP_nrm r3 r4
  · rw [if_neg h, if_neg h]
    by_cases h2 : b1 < b0
    · rw [if_pos h2, if_pos h2]; exact ofP_in _ _ r1 r2 (by omega)
    · rw [if_neg h2, if_neg h2]
      have := mns a0 b0
      have := mxs a1 b1
      exact ofP_in _ _ (by omega) (by omega) (by omega)
theorem widen_eq {a0 a1 b0 b1 : Int} (r1 : -2147483648 ≤ a0) (r2 : a1 ≤ 2147483647) (r3 : -2147483648 ≤ b0) (r4 : b1 ≤ 2147483647) : widenP a0 a1 b0 b1 = rwidenP a0 a1 b0 b1 := by
  unfold widenP
  rw [join_eq r1 r2 r3 r4]
  unfold rwidenP rjoinP
  by_cases h : a1 < a0
  · rw [if_pos (.inl h), if_pos h, if_pos h]
  · by_cases h2 : b1 < b0
    · rw [if_pos (.inr h2), if_neg h, if_neg h, if_pos h2, if_pos h2]
    · rw [if_neg (by omega), if_neg h, if_neg h, if_neg h2, if_neg h2]
      have := mns a0 b0
      have := mxs a1 b1
      refine Prod.ext ?_ ?_
      · show (if b0 < a0 then (-2147483648 : Int) else mn a0 b0) = (if b0 < a0 then -2147483648 else a0)
        split <;> omega
      · show (if a1 < b1 then (2147483647 : Int) else mx a1 b1) = (if a1 < b1 then 2147483647 else a1)
        split <;> omega
theorem narrow_eq {a0 a1 b0 b1 : Int} (r1 : -2147483648 ≤ a0) (r2 : a1 ≤ 2147483647) (r3 : -2147483648 ≤ b0) (r4 : b1 ≤ 2147483647) : narrowP a0 a1 b0 b1 = rnarrowP a0 a1 b0 b1 := by
  unfold narrowP rnarrowP
  by_cases h : a1 < a0 ∨ b1 < b0
  · rw [if_pos h, if_pos h]
  · rw [if_neg h, if_neg h]; exact ofP_nrm (by split <;> omega) (by split <;> omega)
theorem join_specs (a0 a1 b0 b1 : Int) : (a1 < a0 ∧ b1 < b0 ∧ (rjoinP a0 a1 b0 b1).1 = 1 ∧ (rjoinP a0 a1 b0 b1).2 = 0) ∨ (a1 < a0 ∧ b0 ≤ b1 ∧ (rjoinP a0 a1 b0 b1).1 = b0 ∧ (rjoinP a0 a1 b0 b1).2 = b1) ∨ (a0 ≤ a1 ∧ b1 < b0 ∧ (rjoinP a0 a1 b0 b1).1 = a0 ∧ (rjoinP a0 a1 b0 b1).2 = a1) ∨ (a0 ≤ a1 ∧ b0 ≤ b1 ∧ (rjoinP a0 a1 b0 b1).1 = mn a0 b0 ∧ (rjoinP a0 a1 b0 b1).2 = mx a1 b1) := by
  unfold rjoinP
  by_cases h : a1 < a0
  · rw [if_pos h]
    have := nrms b0 b1
    omega
  · rw [if_neg h]
    by_cases h2 : b1 < b0
    · rw [if_pos h2]; exact .inr (.inr (.inl ⟨by omega, h2, rfl, rfl⟩))
    · rw [if_neg h2]; exact .inr (.inr (.inr ⟨by omega, by omega, rfl, rfl⟩))
theorem widen_specs (a0 a1 b0 b1 : Int) : (a1 < a0 ∧ b1 < b0 ∧ (rwidenP a0 a1 b0 b1).1 = 1 ∧ (rwidenP a0 a1 b0 b1).2 = 0) ∨ (a1 < a0 ∧ b0 ≤ b1 ∧ (rwidenP a0 a1 b0 b1).1 = b0 ∧ (rwidenP a0 a1 b0 b1).2 = b1) ∨ (a0 ≤ a1 ∧ b1 < b0 ∧ (rwidenP a0 a1 b0 b1).1 = a0 ∧ (rwidenP a0 a1 b0 b1).2 = a1) ∨ (a0 ≤ a1 ∧ b0 ≤ b1 ∧ ((b0 < a0 ∧ (rwidenP a0 a1 b0 b1).1 = -2147483648) ∨ (a0 ≤ b0 ∧ (rwidenP a0 a1 b0 b1).1 = a0)) ∧ ((a1 < b1 ∧ (rwidenP a0 a1 b0 b1).2 = 2147483647) ∨ (b1 ≤ a1 ∧ (rwidenP a0 a1 b0 b1).2 = a1))) := by
  unfold rwidenP
  by_cases h : a1 < a0
  · rw [if_pos h]
    have := nrms b0 b1
    omega
  · rw [if_neg h]
    by_cases h2 : b1 < b0
    · rw [if_pos h2]; exact .inr (.inr (.inl ⟨by omega, h2, rfl, rfl⟩))
    · rw [if_neg h2]
      refine .inr (.inr (.inr ⟨by omega, by omega, ?_, ?_⟩))
      · show (b0 < a0 ∧ (if b0 < a0 then (-2147483648 : Int) else a0) = _) ∨ (a0 ≤ b0 ∧ (if b0 < a0 then (-2147483648 : Int) else a0) = _)
        split <;> omega
      · show (a1 < b1 ∧ (if a1 < b1 then (2147483647 : Int) else a1) = _) ∨ (b1 ≤ a1 ∧ (if a1 < b1 then (2147483647 : Int) else a1) = _)
        split <;> omega
end Go.Proofs.Ytdagadcflignfaa
namespace Go.Proofs.Ytdagadcflignfaa
open Go.RowKit

theorem bot_one (f : Int → Int → Int) (x y : Int) : bot f x x y y = f x y := by unfold bot mn; simp
theorem top_one (f : Int → Int → Int) (x y : Int) : top f x x y y = f x y := by unfold top mx; simp
theorem mul_big (x y : Int) (h0 : -2147483648 ≤ x) (h1 : x ≤ 2147483648) (h2 : -2147483648 ≤ y) (h3 : y ≤ 2147483648) : -9223372036854775808 ≤ x * y ∧ x * y ≤ 9223372036854775807 := by
  have t := mul_btw (-2147483648) 2147483648 x y h0 h1
  unfold Btw at t
  omega
section
variable (a0 a1 b0 b1 : Int) (ha : a0 ≤ a1) (hb : b0 ≤ b1) (r1 : -2147483648 ≤ a0) (r2 : a1 ≤ 2147483647) (r3 : -2147483648 ≤ b0) (r4 : b1 ≤ 2147483647)
include ha hb r1 r2 r3 r4
end
end Go.Proofs.Ytdagadcflignfaa
namespace Go.Proofs.Ytdagadcflignfaa.Sx.Z
open Go.RowKit
abbrev IE := (Int × Int) × (Bool × Bool)
/-- Empty, or of numbers that may be. -/
def Rg (p : Int × Int) : Prop := p.2 < p.1 ∨ (-2147483648 ≤ p.1 ∧ p.2 ≤ 2147483647)
theorem Nm.rg {p : Int × Int} (h : Nm p) : Rg p := by
  rcases h with rfl | h
  · exact .inl (by decide)
  · exact .inr ⟨h.1, h.2.2⟩
def NoDo (k : Int) (a b : Int × Int) : Prop := a.2 < a.1 ∨ b.2 < b.1 ∨ k < 4 ∨ 8 < k
/-- A call that tells numbers and truths, and leaves memory as it was. -/
theorem con_plain {P : Program} {f : FuncId} {aps : List AP} {spec : FSpec} (hen : ∀ (args : Array Value) (w : World), (callFunc f args).run P w = .ok (.enter f args) w)
    (H : ∀ ds fr e, spec ds fr = some e → All e.vc → e.nw = [] ∧ plainE e = true ∧ ∀ svs h id ρ vs, unP aps ds 0 = some (svs, h, id) → ArgsRel ρ svs vs → ∀ w, ∃ v, (∀ ρ, UR ρ e.val v) ∧ Calls P f vs.toArray w fun en w' => en = .returned v ∧ Below w.heap.size w w') : ConOK P f (con aps spec) := by
  refine ⟨hen, fun hp fr args e he hv w0 w ρ vs hw _ ha => ?_⟩
  unfold con at he
  split at he
  · rename_i ds ps hds
    split at he
    · rename_i e1 he1
      obtain rfl := by simpa using he
      obtain ⟨hp1, hp2⟩ := all_append.1 hv
      obtain ⟨svs, h, ρ1, id, hun, _, _, hrel⟩ := unP_spec hw aps args ds ps hds hp1 vs ha (ids := keepOwn hp (idsL args)) (fun i hi ho => keepOwn_mem.2 ⟨hi, ho⟩) 0
      obtain ⟨h1, h2, h3⟩ := H ds fr e1 he1 hp2
      obtain ⟨v, hv, hc⟩ := h3 svs h id ρ1 vs hun hrel w
      refine hc.mono ?_
      rintro en w' ⟨rfl, hb⟩
      refine ⟨ρ, v, rfl, hv ρ, ⟨⟨fun _ _ h => h, fun _ _ => rfl, fun _ _ h => h, rfl, rfl⟩, fun _ _ => rfl, hb.mono (Nat.zero_le _), fun b hlt _ => hb.block b hlt, fun i x h => ?_, fun i x h => ?_, fun i j x y h => ?_, fun _ _ h => .inl h⟩⟩
      · rw [h2] at h; simp [look] at h
      · have h : look e1.nw i = some x := h
        rw [h1] at h; simp [look] at h
      · have h : look e1.nw i = some x := h
        rw [h1] at h; simp [look] at h
    · cases he
  · cases he
theorem agg2 {ρ : Map} {a b : Int} {v : Value} (h : UR ρ (.one (.agg [.c (.int .i64 (.sym a)), .c (.int .i64 (.sym b))])) v) : v = .agg #[.int .i64 a, .int .i64 b] := by
  obtain ⟨cs, rfl, h1, h2⟩ := h
  obtain ⟨l⟩ := cs
  match l, h1 with
  | [x, y], _ =>
    have e1 := h2 0 _ x rfl rfl
    have e2 := h2 1 _ y rfl rfl
    have e1 : x = .int .i64 a := e1
    have e2 : y = .int .i64 b := e2
    rw [e1, e2]
end Go.Proofs.Ytdagadcflignfaa.Sx.Z
namespace Go.Proofs.Ytdagadcflignfaa.Sx.Z
open Go.RowKit
def tg (x y : Bool × Bool) : Bool × Bool := (x.1 || y.1, x.2 || y.2)
def prI (I : D) (v : Int) : Int × Int := ((I.el v.toNat 0).toI, (I.el v.toNat 1).toI)
def bothI (l r : IE) : (Int × Int) × (Int × Int) × (Bool × Bool) := if l.1.2 < l.1.1 then ((1, 0), (1, 0), l.2) else (l.1, r.1, tg l.2 r.2)
def noE : IE := ((1, 0), (false, false))
def RgI (I : D) : Prop := I.len ≤ 1000 ∧ ∀ v : Int, 0 ≤ v → v < I.len → Rg (prI I v)
theorem rg_none : Rg (1, 0) := .inl (by decide)
theorem both_rg {l r : IE} (hl : Rg l.1) (hr : Rg r.1) : Rg (bothI l r).1 ∧ Rg (bothI l r).2.1 := by
  unfold bothI
  split
  · exact ⟨rg_none, rg_none⟩
  · exact ⟨hl, hr⟩
theorem of00 : ofI 0 0 = (0, 0) := by decide
noncomputable def togS : FSpec := fun ds _ => match ds with
  | [.b a, .b b, .b c, .b d] => some { val := .one (.agg [.c (.bool (.sym (tg (a, b) (c, d)).1)), .c (.bool (.sym (tg (a, b) (c, d)).2))]), vc := [] }
  | _ => none
noncomputable def togC : Con := con [.agg [.c .bool, .c .bool], .agg [.c .bool, .c .bool]] togS
noncomputable def reckM : List Dat → Nat := fun ds => match ds with
  | [.i k, .i n, .i v, .d d, .d I] => SizeOf.sizeOf d
  | _ => 0
end Go.Proofs.Ytdagadcflignfaa.Sx.Z
namespace Go.Proofs.Ytdagadcflignfaa.Sx.Z
open Go.RowKit
def near (f : Nat → Int) (i j : Nat) (by' : Int) (o : Nat) : Int := min (f o) (f (o / 7 * 7 + i) + by' + f (j * 7 + o % 7))
def nearTo (f : Nat → Int) (i j : Nat) (by' : Int) (r k m : Nat) (o : Nat) : Int := if (o / 7 < k ∨ o / 7 = k ∧ o % 7 < m) ∧ o % 7 < r then near f i j by' o else f o
theorem raw0 (n : Nat) : nat_lit 0 + n = n := Nat.zero_add n
theorem icg {α : Sort _} {p q : Prop} [Decidable p] [Decidable q] {a b x y : α} (h : p ↔ q) (h1 : a = x) (h2 : b = y) : (if p then a else b) = (if q then x else y) := by
  by_cases hp : p
  · rw [if_pos hp, if_pos (h.1 hp), h1]
  · rw [if_neg hp, if_neg (fun k => hp (h.2 k)), h2]
theorem c7 : ((7 : Nat) : Int) = 7 := rfl
theorem at_iff (p o : Nat) : ((p.ble o && o.blt (p + 1)) = true) = (o = p) := propext ⟨fun h => by simp only [Bool.and_eq_true, Nat.ble_eq, Nat.blt_eq] at h; omega, fun h => by subst h; simp [Nat.ble_eq, Nat.blt_eq]⟩
theorem dm7 {k m : Nat} (h : m < 7) : (k * 7 + m) / 7 = k ∧ (k * 7 + m) % 7 = m := by omega
theorem nearTo_zero (f : Nat → Int) (i j : Nat) (by' : Int) (r : Nat) (o : Nat) : nearTo f i j by' r 0 0 o = f o := by unfold nearTo; rw [if_neg (by omega)]
theorem nearTo_next {f : Nat → Int} {i j : Nat} {by' : Int} {r k : Nat} (o : Nat) : nearTo f i j by' r k r o = nearTo f i j by' r (k + 1) 0 o := by
  unfold nearTo
  by_cases h : (o / 7 < k ∨ o / 7 = k ∧ o % 7 < r) ∧ o % 7 < r
  · rw [if_pos h, if_pos (by omega)]
  · rw [if_neg h, if_neg (by omega)]
theorem nearTo_step {f : Nat → Int} {i j : Nat} {by' : Int} {r k m : Nat} (hm : m < r) (hr : r ≤ 7) {V : Int} (hV : V = near f i j by' (k * 7 + m)) (o : Nat) :
    (if o = k * 7 + m then V else nearTo f i j by' r k m o) = nearTo f i j by' r k (m + 1) o := by
  by_cases h : o = k * 7 + m
  · subst h
    rw [if_pos rfl, hV]
    unfold nearTo
    rw [if_pos (by have := dm7 (k := k) (m := m) (by omega); omega)]
  · rw [if_neg h]
    unfold nearTo
    by_cases h2 : (o / 7 < k ∨ o / 7 = k ∧ o % 7 < m) ∧ o % 7 < r
    · rw [if_pos h2, if_pos (by omega)]
    · rw [if_neg h2, if_neg (by omega)]
def bdF (n : Int) (f : Nat → Int) (i j : Nat) (by' : Int) (o : Nat) : Int := if by' ≥ f (i * 7 + j) then f o else if by' < 0 - f (j * 7 + i) then 0 else if o / 7 < (rowsP n).toNat ∧ o % 7 < (rowsP n).toNat then near f i j by' o else f o
def bdC (c : Bool) (f : Nat → Int) (i j : Nat) (by' : Int) : Bool := if by' ≥ f (i * 7 + j) then c else if by' < 0 - f (j * 7 + i) then true else c
def boundedS : FSpec := fun ds _ => match ds with
  | [.i n, .b c, .f f, .i i, .i j, .i by_] => some { val := .one (.agg [.c (.int .i64 (.sym (n))), .c (.bool (.sym (bdC c f i.toNat j.toNat by_))), .ints .i64 (.lit 49) (bdF n f i.toNat j.toNat by_)]), vc := [Sm f, (0 ≤ i ∧ i < 7), (0 ≤ j ∧ j < 7)] }
  | _ => none
def boundedC : Con := con [zA, iA, iA, iA] boundedS
end Go.Proofs.Ytdagadcflignfaa.Sx.Z
