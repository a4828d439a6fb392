/-
  Itvs joined, widened: the program's, and the reference's.
-/
import Derived.Test.YtbcbcambkjhhhaaProg
import Derived.Test.YtbcbcambkjhhhaaChecked
import Derived.IntWalk
import Derived.ChangeArms
import Derived.OpenShut
import Derived.WideShapes
import Derived.ChangeShapes
import Derived.Carry
import Derived.DataReads
import Derived.KernelRfl
import Derived.Deep.LoopGhost
import Derived.Laws.Append
import Derived.Laws.AppendOwn
import Derived.Laws.MakeOwn
import Derived.Laws.StructEq
import Derived.Laws.Cells
import Derived.Laws.CopyRow
import Derived.Laws.Rows
import Derived.Below
import Derived.Orders
import Derived.ChangeKeysEq
import Derived.WalkKit
import Derived.ProofKit
import Derived.Handy
import Derived.Lib.Hide
import Derived.Deep.WholeRow
import Derived.Deep.Cut
import Derived.Deep.RegionHeld3
import Derived.Deep.CutRange
import Derived.Test.YtbcbcambkjhhhaaMA
import Derived.Test.YtbcbcambkjhhhaaMB
import Derived.Test.YtbcbcambkjhhhaaMC
import Derived.Test.YtbcbcambkjhhhaaMD
import Derived.Test.YtbcbcambkjhhhaaME
import Derived.Test.YtbcbcambkjhhhaaMF
import Derived.Test.YtbcbcambkjhhhaaMG
import Derived.Test.YtbcbcambkjhhhaaMH
import Derived.Test.YtbcbcambkjhhhaaMI
import Derived.Test.YtbcbcambkjhhhaaMJ
import Derived.Test.YtbcbcambkjhhhaaMK
import Derived.Test.YtbcbcambkjhhhaaML
import Derived.Test.YtbcbcambkjhhhaaMM
import Derived.Test.YtbcbcambkjhhhaaMj1
import Derived.Test.YtbcbcambkjhhhaaMN
namespace Go.Proofs.Ytbcbcambkjhhhaa.Sx.Z
open Go.RowKit
def ofI (a b : Int) : Int × Int := (ofLo a b, ofHi a b)
def nrm (a : Int × Int) : Int × Int := if a.1 > a.2 then (1, 0) else a
/-- As every call tells it. -/
def Nm (p : Int × Int) : Prop := p = (1, 0) ∨ (-2147483648 ≤ p.1 ∧ p.1 ≤ p.2 ∧ p.2 ≤ 2147483647)
theorem ofI_cases (a b : Int) : (min b 2147483647 < max a (-2147483648) ∧ ofI a b = (1, 0)) ∨ (max a (-2147483648) ≤ min b 2147483647 ∧ ofI a b = (max a (-2147483648), min b 2147483647)) := by
  unfold ofI ofLo ofHi
  by_cases h : min b 2147483647 < max a (-2147483648)
  · left; simp [h]
  · right; simp [h]; omega
theorem nm_of (a b : Int) : Nm (ofI a b) := by
  rcases ofI_cases a b with ⟨_, e⟩ | ⟨h, e⟩
  · exact .inl e
  · right; rw [e]; dsimp only; omega
theorem nm_id {p : Int × Int} (h : Nm p) : ofI p.1 p.2 = p := by
  rcases h with rfl | h
  · rfl
  · obtain ⟨a, b⟩ := p
    dsimp only at h
    rcases ofI_cases a b with ⟨h1, e⟩ | ⟨h1, e⟩
    · exfalso; omega
    · rw [e]; ext <;> dsimp only <;> omega
end Go.Proofs.Ytbcbcambkjhhhaa.Sx.Z
namespace Go.Proofs.Ytbcbcambkjhhhaa
open Go.RowKit
theorem blk_lt {W : World} {b : Nat} {x : Obj} (h : W.heap[b]? = some x) : b < W.heap.size := by
  rcases Nat.lt_or_ge b W.heap.size with h1 | h1
  · exact h1
  · rw [Array.getElem?_eq_none h1] at h; cases h
theorem blkA (W : World) (x : Obj) {b : Nat} (h : W.heap.size = b) : (W.alloc x).heap[b]? = some x := by
  subst h
  exact heap_alloc_new W x
theorem blk_keep {W W1 : World} {b : Nat} {x : Obj} (hb : Below W.heap.size W W1) (h : W.heap[b]? = some x) : W1.heap[b]? = some x := (hb.block b (blk_lt h)).trans h
theorem blkUp {W : World} {b : Nat} {x : Obj} (h : W.heap[b]? = some x) (ob : Obj) : (W.alloc ob).heap[b]? = some x := blk_keep ((Below.refl _ W).alloc (Nat.le_refl _) ob) h
theorem row_of {W : World} {b : Nat} {R : Array Value} {t : TypeId} {fr : Nat × Nat} (h : W.heap[b]? = some (.cells R t fr)) : ∀ o, W.cell? ⟨b, o, none⟩ = R[o]? := fun o => cell_of_row W b o R t fr h
theorem frozen_of {W : World} {b : Nat} {R : Array Value} {t : TypeId} (h : W.heap[b]? = some (.cells R t (0, 0))) (o : Nat) : W.frozen? ⟨b, o, none⟩ = false := by simp [World.frozen?, h]
theorem wp_world {P : Program} {c : Code} {Q : Exit → Act → World → Prop} {a : Act} {w : World} (F : World → Prop) (hF : F w) (h : ∀ W, F W → c.wp P Q a W) : c.wp P Q a w := h w hF
theorem blk_set {W : World} {b g o : Nat} {x : Obj} {v : Value} (h : W.heap[b]? = some x) (hne : b ≠ g) : (W.setCell ⟨g, o, none⟩ v).heap[b]? = some x := by
  rw [Below.heap_setCell _ _ _ _ hne]
  exact h
theorem seta {W : World} {n : Nat} {t : TypeId} {a b v : Value} (h : W.heap[n]? = some (.cells #[a, b] t (0, 0))) : (W.setCell ⟨n, 0, none⟩ v).heap[n]? = some (.cells #[v, b] t (0, 0)) := by simp [World.setCell, Array.getElem?_modify, h]
/-- A pair is stored into a block: the block, all others. -/
theorem put2 {W WF : World} {n : Nat} {t : TypeId} {d0 d1 : Value} (h : W.heap[n]? = some (.cells #[d0, d1] t (0, 0))) (v0 v1 : Value) (hW : WF = (W.setCell ⟨n, 0, none⟩ v0).setCell ⟨n, 1, none⟩ v1) :
    WF.heap[n]? = some (.cells #[v0, v1] t (0, 0)) ∧ (∀ (b : Nat) (x : Obj), b ≠ n → W.heap[b]? = some x → WF.heap[b]? = some x) ∧ (∀ B, B ≤ n → Below B W WF) ∧ WF.heap.size = W.heap.size := by
  subst hW
  refine ⟨by simp [World.setCell, Array.getElem?_modify, h], fun b x hb hx => blk_set (blk_set hx hb) hb, fun B hB => ?_, by simp [World.setCell]⟩
  exact ((Below.refl _ W).setCell (p := ⟨n, 0, none⟩) hB v0).setCell (p := ⟨n, 1, none⟩) hB v1
/-- The empty one is from 1 to 0. -/
def nrm (l h : Int) : Int × Int := if h < l then (1, 0) else (l, h)
/-- The greater one, the lesser one: as the language's words reckon them. -/
def mx (x y : Int) : Int := if x < y then y else x
def mn (x y : Int) : Int := if y < x then y else x
/-- Those from one to another one that a variable may be. -/
def ofP (l h : Int) : Int × Int := nrm (mx l (-2147483648)) (mn h 2147483647)
theorem empty_any (l h : Int) (w : World) :
    Calls Try.prog 46 #[.agg #[.int .i64 l, .int .i64 h]] w fun e w' => e = .returned (.bool (decide (h < l))) ∧ Below w.heap.size w w' := by
  go_enter Try.func46, Try.ntmps46
  go_wp2
  go_ret
  exact ⟨by simp, by go_grown⟩
theorem none_any (w : World) :
    Calls Try.prog 78 #[] w fun e w' => e = .returned (.agg #[.int .i64 1, .int .i64 0]) ∧ Below w.heap.size w w' := by
  go_enter Try.func78, Try.ntmps78
  go_wp2
  exact bodyPost_ret (v := .agg #[.int .i64 1, .int .i64 0]) (by simp [results, Try.results78, go_sem]) rfl ⟨rfl, by go_grown⟩
theorem has_any (l h n : Int) (w : World) :
    Calls Try.prog 45 #[.agg #[.int .i64 l, .int .i64 h], .int .i64 n] w fun e w' => e = .returned (.bool (decide (l ≤ n ∧ n ≤ h))) ∧ Below w.heap.size w w' := by
  by_cases hc : l ≤ n
  · have hd := decide_eq_true hc
    go_enter Try.func45, Try.ntmps45
    go_wp2
    go_ret
    exact ⟨by simp [hc], by go_grown⟩
  · have hd := decide_eq_false hc
    go_enter Try.func45, Try.ntmps45
    go_wp2
    go_ret
    exact ⟨by simp, by go_grown⟩
theorem of_gen (l h L H : Int) (hL : (if l < -2147483648 then -2147483648 else l) = L) (hH : (if 2147483647 < h then 2147483647 else h) = H) (w : World) :
    Calls Try.prog 68 #[.int .i64 l, .int .i64 h] w fun e w' => e = .returned (.agg #[.int .i64 (nrm L H).1, .int .i64 (nrm L H).2]) ∧ Below w.heap.size w w' := by
  go_enter Try.func68, Try.ntmps68
  go_upto_region 2 with fail
  refine wp_world (fun W => W.heap[w.heap.size]? = some (.cells #[.int .i64 0, .int .i64 0] 48 (0, 0)) ∧ W.heap[w.heap.size + 1]? = some (.cells #[.int .i64 L, .int .i64 H] 48 (0, 0)) ∧ Below w.heap.size w W) ⟨blkUp (blkA _ _ rfl) _, blkA _ _ (by simp), ((Below.refl _ _).alloc (Nat.le_refl _) _).alloc (by simp) _⟩ ?_
  clear hL hH
  rintro w1 ⟨k0, k1, hB1⟩
  have z0 := blk_lt k0
  have z1 := blk_lt k1
  have r1 := row_of k1
  go_wp2_with fail
  refine (empty_any _ _ _).mono ?_
  rintro e w2 ⟨rfl, hb2⟩
  replace k0 := blk_keep hb2 k0
  replace k1 := blk_keep hb2 k1
  have hB2 := hB1.trans (hb2.mono hB1.size)
  clear hb2 hB1 r1 z0 z1
  have r0 := row_of k0
  have r1 := row_of k1
  have f0 := frozen_of k0
  have z0 := blk_lt k0
  have z1 := blk_lt k1
  by_cases hc : H < L
  · have hd := decide_eq_true hc
    go_wp2_with fail
    refine (none_any _).mono ?_
    rintro e w3 ⟨rfl, hb3⟩
    replace k0 := blk_keep hb3 k0
    have hB3 := hB2.trans (hb3.mono hB2.size)
    clear hb3 hB2 r0 r1 z0 z1 k1 f0
    have r0 := row_of k0
    have f0 := frozen_of k0
    have z0 := blk_lt k0
    go_wp2_with fail
    generalize hWF : (World.setCell (World.setCell _ _ _) _ _) = WF
    obtain ⟨kF, _, bF, _⟩ := put2 k0 _ _ hWF.symm
    clear hWF
    have rF := row_of kF
    exact bodyPost_ret (v := .agg #[.int .i64 (nrm L H).1, .int .i64 (nrm L H).2]) (by simp [results, Try.results68, go_sem, rF, nrm, hc]) rfl ⟨rfl, hB3.trans (bF _ (Nat.le_refl _))⟩
  · have hd := decide_eq_false hc
    have hn : nrm L H = (L, H) := if_neg hc
    go_wp2_with fail
    generalize hWF : (World.setCell (World.setCell _ _ _) _ _) = WF
    obtain ⟨kF, _, bF, _⟩ := put2 k0 _ _ hWF.symm
    clear hWF
    have rF := row_of kF
    exact bodyPost_ret (v := .agg #[.int .i64 L, .int .i64 H]) (by simp [results, Try.results68, go_sem, rF]) rfl ⟨by rw [hn], hB2.trans (bF _ (Nat.le_refl _))⟩
theorem of_any (l h : Int) (w : World) :
    Calls Try.prog 68 #[.int .i64 l, .int .i64 h] w fun e w' => e = .returned (.agg #[.int .i64 (ofP l h).1, .int .i64 (ofP l h).2]) ∧ Below w.heap.size w w' := of_gen l h _ _ rfl rfl w
theorem const_any (n : Int) (w : World) :
    Calls Try.prog 34 #[.int .i64 n] w fun e w' => e = .returned (.agg #[.int .i64 (ofP n n).1, .int .i64 (ofP n n).2]) ∧ Below w.heap.size w w' := by
  go_enter Try.func34, Try.ntmps34
  go_upto_region 1 with fail
  refine wp_world (fun W => W.heap[w.heap.size]? = some (.cells #[.int .i64 0, .int .i64 0] 48 (0, 0)) ∧ Below w.heap.size w W) ⟨blkA _ _ rfl, (Below.refl _ _).alloc (Nat.le_refl _) _⟩ ?_
  rintro w1 ⟨k0, hB1⟩
  go_wp2_with fail
  refine (of_any _ _ _).mono ?_
  rintro e w2 ⟨rfl, hb2⟩
  replace k0 := blk_keep hb2 k0
  have hB2 := hB1.trans (hb2.mono hB1.size)
  have r0 := row_of k0
  have f0 := frozen_of k0
  have z0 := blk_lt k0
  go_wp2_with fail
  generalize hWF : (World.setCell (World.setCell _ _ _) _ _) = WF
  obtain ⟨kF, _, bF, _⟩ := put2 k0 _ _ hWF.symm
  clear hWF
  have rF := row_of kF
  exact bodyPost_ret (v := .agg #[.int .i64 (ofP n n).1, .int .i64 (ofP n n).2]) (by simp [results, Try.results34, go_sem, rF]) rfl ⟨rfl, hB2.trans (bF _ (Nat.le_refl _))⟩
end Go.Proofs.Ytbcbcambkjhhhaa
namespace Go.Proofs.Ytbcbcambkjhhhaa
open Go.RowKit
def joinP (a0 a1 b0 b1 : Int) : Int × Int := if a1 < a0 then ofP b0 b1 else if b1 < b0 then ofP a0 a1 else ofP (mn a0 b0) (mx a1 b1)
def meetP (a0 a1 b0 b1 : Int) : Int × Int := ofP (mx a0 b0) (mn a1 b1)
def rjoinP (a0 a1 b0 b1 : Int) : Int × Int := if a1 < a0 then nrm b0 b1 else if b1 < b0 then (a0, a1) else (mn a0 b0, mx a1 b1)
theorem join_1 (a0 a1 b0 b1 : Int) (w : World) (h : a1 < a0) :
    Calls Try.prog 70 #[.agg #[.int .i64 a0, .int .i64 a1], .agg #[.int .i64 b0, .int .i64 b1]] w fun e w' => e = .returned (.agg #[.int .i64 (ofP b0 b1).1, .int .i64 (ofP b0 b1).2]) ∧ Below w.heap.size w w' := by
  go_enter Try.func70, Try.ntmps70
  go_upto_region 1 with fail
  refine wp_world (fun W => W.heap[w.heap.size]? = some (.cells #[.int .i64 a0, .int .i64 a1] 48 (0, 0)) ∧ W.heap[w.heap.size + 1]? = some (.cells #[.int .i64 b0, .int .i64 b1] 48 (0, 0)) ∧ W.heap[w.heap.size + 2]? = some (.cells #[.int .i64 0, .int .i64 0] 48 (0, 0)) ∧ Below w.heap.size w W) ⟨blkUp (blkUp (blkA _ _ (by first | rfl | simp only [World.size_alloc])) _) _, blkUp (blkA _ _ (by first | rfl | simp only [World.size_alloc])) _, blkA _ _ (by first | rfl | simp only [World.size_alloc]), (((Below.refl _ _).alloc (by first | exact Nat.le_refl _ | (simp only [World.size_alloc]; omega)) _).alloc (by first | exact Nat.le_refl _ | (simp only [World.size_alloc]; omega)) _).alloc (by first | exact Nat.le_refl _ | (simp only [World.size_alloc]; omega)) _⟩ ?_
  rintro w1 ⟨k0, k1, k2, hB⟩
  have r0 := row_of k0
  have f0 := frozen_of k0
  have z0 := blk_lt k0
  have r1 := row_of k1
  have f1 := frozen_of k1
  have z1 := blk_lt k1
  have r2 := row_of k2
  have f2 := frozen_of k2
  have z2 := blk_lt k2
  have hd : decide (a1 < a0) = true := by simp; omega
  go_wp2_with fail
  refine (empty_any _ _ _).mono ?_
  rintro e w2 ⟨rfl, hb⟩
  replace k0 := blk_keep hb k0
  replace k1 := blk_keep hb k1
  replace k2 := blk_keep hb k2
  replace hB := hB.trans (hb.mono hB.size)
  clear r0 f0 z0 r1 f1 z1 r2 f2 z2
  clear hb
  have r0 := row_of k0
  have f0 := frozen_of k0
  have z0 := blk_lt k0
  have r1 := row_of k1
  have f1 := frozen_of k1
  have z1 := blk_lt k1
  have r2 := row_of k2
  have f2 := frozen_of k2
  have z2 := blk_lt k2
  go_wp2_with fail
  refine (of_any _ _ _).mono ?_
  rintro e w3 ⟨rfl, hb⟩
  replace k0 := blk_keep hb k0
  replace k1 := blk_keep hb k1
  replace k2 := blk_keep hb k2
  replace hB := hB.trans (hb.mono hB.size)
  clear r0 f0 z0 r1 f1 z1 r2 f2 z2
  clear hb
  have r0 := row_of k0
  have f0 := frozen_of k0
  have z0 := blk_lt k0
  have r1 := row_of k1
  have f1 := frozen_of k1
  have z1 := blk_lt k1
  have r2 := row_of k2
  have f2 := frozen_of k2
  have z2 := blk_lt k2
  go_wp2_with fail
  generalize hWF : (World.setCell (World.setCell _ _ _) _ _) = WF
  obtain ⟨kF, _, bF, _⟩ := put2 k2 _ _ hWF.symm
  clear r0 f0 z0 r1 f1 z1 r2 f2 z2
  clear hWF
  have rF := row_of kF
  exact bodyPost_ret (v := .agg #[.int .i64 (ofP b0 b1).1, .int .i64 (ofP b0 b1).2]) (by simp [results, Try.results70, go_sem, rF]) rfl ⟨rfl, hB.trans (bF _ (by show w.heap.size ≤ w.heap.size + 2; omega))⟩
theorem join_2 (a0 a1 b0 b1 : Int) (w : World) (h : a0 ≤ a1) (h2 : b1 < b0) :
    Calls Try.prog 70 #[.agg #[.int .i64 a0, .int .i64 a1], .agg #[.int .i64 b0, .int .i64 b1]] w fun e w' => e = .returned (.agg #[.int .i64 (ofP a0 a1).1, .int .i64 (ofP a0 a1).2]) ∧ Below w.heap.size w w' := by
  go_enter Try.func70, Try.ntmps70
  go_upto_region 1 with fail
  refine wp_world (fun W => W.heap[w.heap.size]? = some (.cells #[.int .i64 a0, .int .i64 a1] 48 (0, 0)) ∧ W.heap[w.heap.size + 1]? = some (.cells #[.int .i64 b0, .int .i64 b1] 48 (0, 0)) ∧ W.heap[w.heap.size + 2]? = some (.cells #[.int .i64 0, .int .i64 0] 48 (0, 0)) ∧ Below w.heap.size w W) ⟨blkUp (blkUp (blkA _ _ (by first | rfl | simp only [World.size_alloc])) _) _, blkUp (blkA _ _ (by first | rfl | simp only [World.size_alloc])) _, blkA _ _ (by first | rfl | simp only [World.size_alloc]), (((Below.refl _ _).alloc (by first | exact Nat.le_refl _ | (simp only [World.size_alloc]; omega)) _).alloc (by first | exact Nat.le_refl _ | (simp only [World.size_alloc]; omega)) _).alloc (by first | exact Nat.le_refl _ | (simp only [World.size_alloc]; omega)) _⟩ ?_
  rintro w1 ⟨k0, k1, k2, hB⟩
  have r0 := row_of k0
  have f0 := frozen_of k0
  have z0 := blk_lt k0
  have r1 := row_of k1
  have f1 := frozen_of k1
  have z1 := blk_lt k1
  have r2 := row_of k2
  have f2 := frozen_of k2
  have z2 := blk_lt k2
  have hd : decide (a1 < a0) = false := by simp; omega
  have hd2 : decide (b1 < b0) = true := by simp; omega
  go_wp2_with fail
  refine (empty_any _ _ _).mono ?_
  rintro e w2 ⟨rfl, hb⟩
  replace k0 := blk_keep hb k0
  replace k1 := blk_keep hb k1
  replace k2 := blk_keep hb k2
  replace hB := hB.trans (hb.mono hB.size)
  clear r0 f0 z0 r1 f1 z1 r2 f2 z2
  clear hb
  have r0 := row_of k0
  have f0 := frozen_of k0
  have z0 := blk_lt k0
  have r1 := row_of k1
  have f1 := frozen_of k1
  have z1 := blk_lt k1
  have r2 := row_of k2
  have f2 := frozen_of k2
  have z2 := blk_lt k2
  go_wp2_with fail
  refine (empty_any _ _ _).mono ?_
  rintro e w3 ⟨rfl, hb⟩
  replace k0 := blk_keep hb k0
  replace k1 := blk_keep hb k1
  replace k2 := blk_keep hb k2
  replace hB := hB.trans (hb.mono hB.size)
  clear r0 f0 z0 r1 f1 z1 r2 f2 z2
  clear hb
  have r0 := row_of k0
  have f0 := frozen_of k0
  have z0 := blk_lt k0
  have r1 := row_of k1
  have f1 := frozen_of k1
  have z1 := blk_lt k1
  have r2 := row_of k2
  have f2 := frozen_of k2
  have z2 := blk_lt k2
  go_wp2_with fail
  refine (of_any _ _ _).mono ?_
  rintro e w4 ⟨rfl, hb⟩
  replace k0 := blk_keep hb k0
  replace k1 := blk_keep hb k1
  replace k2 := blk_keep hb k2
  replace hB := hB.trans (hb.mono hB.size)
  clear r0 f0 z0 r1 f1 z1 r2 f2 z2
  clear hb
  have r0 := row_of k0
  have f0 := frozen_of k0
  have z0 := blk_lt k0
  have r1 := row_of k1
  have f1 := frozen_of k1
  have z1 := blk_lt k1
  have r2 := row_of k2
  have f2 := frozen_of k2
  have z2 := blk_lt k2
  go_wp2_with fail
  generalize hWF : (World.setCell (World.setCell _ _ _) _ _) = WF
  obtain ⟨kF, _, bF, _⟩ := put2 k2 _ _ hWF.symm
  clear r0 f0 z0 r1 f1 z1 r2 f2 z2
  clear hWF
  have rF := row_of kF
  exact bodyPost_ret (v := .agg #[.int .i64 (ofP a0 a1).1, .int .i64 (ofP a0 a1).2]) (by simp [results, Try.results70, go_sem, rF]) rfl ⟨rfl, hB.trans (bF _ (by show w.heap.size ≤ w.heap.size + 2; omega))⟩
theorem join_3 (a0 a1 b0 b1 : Int) (w : World) (h : a0 ≤ a1) (h2 : b0 ≤ b1) :
    Calls Try.prog 70 #[.agg #[.int .i64 a0, .int .i64 a1], .agg #[.int .i64 b0, .int .i64 b1]] w fun e w' => e = .returned (.agg #[.int .i64 (ofP (mn a0 b0) (mx a1 b1)).1, .int .i64 (ofP (mn a0 b0) (mx a1 b1)).2]) ∧ Below w.heap.size w w' := by
  go_enter Try.func70, Try.ntmps70
  go_upto_region 1 with fail
  refine wp_world (fun W => W.heap[w.heap.size]? = some (.cells #[.int .i64 a0, .int .i64 a1] 48 (0, 0)) ∧ W.heap[w.heap.size + 1]? = some (.cells #[.int .i64 b0, .int .i64 b1] 48 (0, 0)) ∧ W.heap[w.heap.size + 2]? = some (.cells #[.int .i64 0, .int .i64 0] 48 (0, 0)) ∧ Below w.heap.size w W) ⟨blkUp (blkUp (blkA _ _ (by first | rfl | simp only [World.size_alloc])) _) _, blkUp (blkA _ _ (by first | rfl | simp only [World.size_alloc])) _, blkA _ _ (by first | rfl | simp only [World.size_alloc]), (((Below.refl _ _).alloc (by first | exact Nat.le_refl _ | (simp only [World.size_alloc]; omega)) _).alloc (by first | exact Nat.le_refl _ | (simp only [World.size_alloc]; omega)) _).alloc (by first | exact Nat.le_refl _ | (simp only [World.size_alloc]; omega)) _⟩ ?_
  rintro w1 ⟨k0, k1, k2, hB⟩
  have r0 := row_of k0
  have f0 := frozen_of k0
  have z0 := blk_lt k0
  have r1 := row_of k1
  have f1 := frozen_of k1
  have z1 := blk_lt k1
  have r2 := row_of k2
  have f2 := frozen_of k2
  have z2 := blk_lt k2
  have hd : decide (a1 < a0) = false := by simp; omega
  have hd2 : decide (b1 < b0) = false := by simp; omega
  go_wp2_with fail
  refine (empty_any _ _ _).mono ?_
  rintro e w2 ⟨rfl, hb⟩
  replace k0 := blk_keep hb k0
  replace k1 := blk_keep hb k1
  replace k2 := blk_keep hb k2
  replace hB := hB.trans (hb.mono hB.size)
  clear r0 f0 z0 r1 f1 z1 r2 f2 z2
  clear hb
  have r0 := row_of k0
  have f0 := frozen_of k0
  have z0 := blk_lt k0
  have r1 := row_of k1
  have f1 := frozen_of k1
  have z1 := blk_lt k1
  have r2 := row_of k2
  have f2 := frozen_of k2
  have z2 := blk_lt k2
  go_wp2_with fail
  refine (empty_any _ _ _).mono ?_
  rintro e w3 ⟨rfl, hb⟩
  replace k0 := blk_keep hb k0
  replace k1 := blk_keep hb k1
  replace k2 := blk_keep hb k2
  replace hB := hB.trans (hb.mono hB.size)
  clear r0 f0 z0 r1 f1 z1 r2 f2 z2
  clear hb
  have r0 := row_of k0
  have f0 := frozen_of k0
  have z0 := blk_lt k0
  have r1 := row_of k1
  have f1 := frozen_of k1
  have z1 := blk_lt k1
  have r2 := row_of k2
  have f2 := frozen_of k2
  have z2 := blk_lt k2
  have hm : (if b0 < a0 then b0 else a0) = mn a0 b0 := rfl
  have hM : (if a1 < b1 then b1 else a1) = mx a1 b1 := rfl
  go_wp2_with fail
  refine (of_any _ _ _).mono ?_
  rintro e w4 ⟨rfl, hb⟩
  replace k0 := blk_keep hb k0
  replace k1 := blk_keep hb k1
  replace k2 := blk_keep hb k2
  replace hB := hB.trans (hb.mono hB.size)
  clear r0 f0 z0 r1 f1 z1 r2 f2 z2
  clear hb
  have r0 := row_of k0
  have f0 := frozen_of k0
  have z0 := blk_lt k0
  have r1 := row_of k1
  have f1 := frozen_of k1
  have z1 := blk_lt k1
  have r2 := row_of k2
  have f2 := frozen_of k2
  have z2 := blk_lt k2
  go_wp2_with fail
  generalize hWF : (World.setCell (World.setCell _ _ _) _ _) = WF
  obtain ⟨kF, _, bF, _⟩ := put2 k2 _ _ hWF.symm
  clear r0 f0 z0 r1 f1 z1 r2 f2 z2
  clear hWF
  have rF := row_of kF
  exact bodyPost_ret (v := .agg #[.int .i64 (ofP (mn a0 b0) (mx a1 b1)).1, .int .i64 (ofP (mn a0 b0) (mx a1 b1)).2]) (by simp [results, Try.results70, go_sem, rF]) rfl ⟨rfl, hB.trans (bF _ (by show w.heap.size ≤ w.heap.size + 2; omega))⟩
theorem join_any (a0 a1 b0 b1 : Int) (w : World) :
    Calls Try.prog 70 #[.agg #[.int .i64 a0, .int .i64 a1], .agg #[.int .i64 b0, .int .i64 b1]] w fun e w' => e = .returned (.agg #[.int .i64 (joinP a0 a1 b0 b1).1, .int .i64 (joinP a0 a1 b0 b1).2]) ∧ Below w.heap.size w w' := by
  unfold joinP
  by_cases h : a1 < a0
  · simpa [h] using join_1 a0 a1 b0 b1 w h
  · by_cases h2 : b1 < b0
    · simpa [h, h2] using join_2 a0 a1 b0 b1 w (by omega) h2
    · simpa [h, h2] using join_3 a0 a1 b0 b1 w (by omega) (by omega)
theorem meet_any (a0 a1 b0 b1 : Int) (w : World) :
    Calls Try.prog 119 #[.agg #[.int .i64 a0, .int .i64 a1], .agg #[.int .i64 b0, .int .i64 b1]] w fun e w' => e = .returned (.agg #[.int .i64 (meetP a0 a1 b0 b1).1, .int .i64 (meetP a0 a1 b0 b1).2]) ∧ Below w.heap.size w w' := by
  go_enter Try.func119, Try.ntmps119
  unfold meetP
  go_upto_region 1 with fail
  refine wp_world (fun W => W.heap[w.heap.size]? = some (.cells #[.int .i64 a0, .int .i64 a1] 48 (0, 0)) ∧ W.heap[w.heap.size + 1]? = some (.cells #[.int .i64 b0, .int .i64 b1] 48 (0, 0)) ∧ W.heap[w.heap.size + 2]? = some (.cells #[.int .i64 0, .int .i64 0] 48 (0, 0)) ∧ Below w.heap.size w W) ⟨blkUp (blkUp (blkA _ _ (by first | rfl | simp only [World.size_alloc])) _) _, blkUp (blkA _ _ (by first | rfl | simp only [World.size_alloc])) _, blkA _ _ (by first | rfl | simp only [World.size_alloc]), (((Below.refl _ _).alloc (by first | exact Nat.le_refl _ | (simp only [World.size_alloc]; omega)) _).alloc (by first | exact Nat.le_refl _ | (simp only [World.size_alloc]; omega)) _).alloc (by first | exact Nat.le_refl _ | (simp only [World.size_alloc]; omega)) _⟩ ?_
  rintro w1 ⟨k0, k1, k2, hB⟩
  have r0 := row_of k0
  have f0 := frozen_of k0
  have z0 := blk_lt k0
  have r1 := row_of k1
  have f1 := frozen_of k1
  have z1 := blk_lt k1
  have r2 := row_of k2
  have f2 := frozen_of k2
  have z2 := blk_lt k2
  have hm : (if a0 < b0 then b0 else a0) = mx a0 b0 := rfl
  have hM : (if b1 < a1 then b1 else a1) = mn a1 b1 := rfl
  go_wp2_with fail
  refine (of_any _ _ _).mono ?_
  rintro e w2 ⟨rfl, hb⟩
  replace k0 := blk_keep hb k0
  replace k1 := blk_keep hb k1
  replace k2 := blk_keep hb k2
  replace hB := hB.trans (hb.mono hB.size)
  clear r0 f0 z0 r1 f1 z1 r2 f2 z2
  clear hb
  have r0 := row_of k0
  have f0 := frozen_of k0
  have z0 := blk_lt k0
  have r1 := row_of k1
  have f1 := frozen_of k1
  have z1 := blk_lt k1
  have r2 := row_of k2
  have f2 := frozen_of k2
  have z2 := blk_lt k2
  go_wp2_with fail
  generalize hWF : (World.setCell (World.setCell _ _ _) _ _) = WF
  obtain ⟨kF, _, bF, _⟩ := put2 k2 _ _ hWF.symm
  clear r0 f0 z0 r1 f1 z1 r2 f2 z2
  clear hWF
  have rF := row_of kF
  exact bodyPost_ret (v := .agg #[.int .i64 (ofP (mx a0 b0) (mn a1 b1)).1, .int .i64 (ofP (mx a0 b0) (mn a1 b1)).2]) (by simp [results, Try.results119, go_sem, rF]) rfl ⟨rfl, hB.trans (bF _ (by show w.heap.size ≤ w.heap.size + 2; omega))⟩
end Go.Proofs.Ytbcbcambkjhhhaa
namespace Go.Proofs.Ytbcbcambkjhhhaa
open Go.RowKit
/-- Two pairs are stored, each into a block. -/
theorem put22 {W WF : World} {n m : Nat} {t u : TypeId} {d0 d1 c0 c1 : Value} (hne : n ≠ m) (h : W.heap[n]? = some (.cells #[d0, d1] t (0, 0))) (g : W.heap[m]? = some (.cells #[c0, c1] u (0, 0))) (v0 v1 u0 u1 : Value) (hW : WF = (((W.setCell ⟨n, 0, none⟩ v0).setCell ⟨n, 1, none⟩ v1).setCell ⟨m, 0, none⟩ u0).setCell ⟨m, 1, none⟩ u1) :
    WF.heap[n]? = some (.cells #[v0, v1] t (0, 0)) ∧ WF.heap[m]? = some (.cells #[u0, u1] u (0, 0)) ∧ (∀ B, B ≤ n → B ≤ m → Below B W WF) := by
  obtain ⟨h1, h2, h3, _⟩ := put2 h v0 v1 rfl
  have g1 := h2 m _ (Ne.symm hne) g
  obtain ⟨g2, g3, g4, _⟩ := put2 g1 u0 u1 hW
  exact ⟨g3 n _ hne h1, g2, fun B b1 b2 => (h3 B b1).trans (g4 B b2)⟩
set_option maxRecDepth 100000 in
theorem min4 (b : Nat) (e0 e1 e2 e3 : Int) (w : World) (_hb : b < w.heap.size) (c0 : w.cell? ⟨b, 0, none⟩ = some (.int .i64 e0)) (c1 : w.cell? ⟨b, 1, none⟩ = some (.int .i64 e1)) (c2 : w.cell? ⟨b, 2, none⟩ = some (.int .i64 e2)) (c3 : w.cell? ⟨b, 3, none⟩ = some (.int .i64 e3)) :
    Calls Try.prog 163 #[.slice (some ⟨b, 0, none⟩) 4 4] w fun e w' => e = .returned (.int .i64 (mn (mn (mn e0 e1) e2) e3)) ∧ w = w' := by
  have h1 : (if e1 < e0 then e1 else e0) = mn e0 e1 := rfl
  generalize hm1 : mn e0 e1 = m1 at *
  have h2 : (if e2 < m1 then e2 else m1) = mn m1 e2 := rfl
  generalize hm2 : mn m1 e2 = m2 at *
  have h3 : (if e3 < m2 then e3 else m2) = mn m2 e3 := rfl
  generalize hm3 : mn m2 e3 = m3 at *
  go_enter Try.func163, Try.ntmps163
  go_wp2_with fail
  refine wp_loop_rounds 4 ?_
  rw [rounds_succ]
  go_wp2_with fail
  rw [rounds_succ]
  go_wp2_with fail
  rw [rounds_succ]
  go_wp2_with fail
  rw [rounds_succ]
  go_wp2_with fail
  go_ret
  exact ⟨rfl, rfl⟩
set_option maxRecDepth 100000 in
theorem max4 (b : Nat) (e0 e1 e2 e3 : Int) (w : World) (_hb : b < w.heap.size) (c0 : w.cell? ⟨b, 0, none⟩ = some (.int .i64 e0)) (c1 : w.cell? ⟨b, 1, none⟩ = some (.int .i64 e1)) (c2 : w.cell? ⟨b, 2, none⟩ = some (.int .i64 e2)) (c3 : w.cell? ⟨b, 3, none⟩ = some (.int .i64 e3)) :
    Calls Try.prog 164 #[.slice (some ⟨b, 0, none⟩) 4 4] w fun e w' => e = .returned (.int .i64 (mx (mx (mx e0 e1) e2) e3)) ∧ w = w' := by
  have h1 : (if e0 < e1 then e1 else e0) = mx e0 e1 := rfl
  generalize hm1 : mx e0 e1 = m1 at *
  have h2 : (if m1 < e2 then e2 else m1) = mx m1 e2 := rfl
  generalize hm2 : mx m1 e2 = m2 at *
  have h3 : (if m2 < e3 then e3 else m2) = mx m2 e3 := rfl
  generalize hm3 : mx m2 e3 = m3 at *
  go_enter Try.func164, Try.ntmps164
  go_wp2_with fail
  refine wp_loop_rounds 4 ?_
  rw [rounds_succ]
  go_wp2_with fail
  rw [rounds_succ]
  go_wp2_with fail
  rw [rounds_succ]
  go_wp2_with fail
  rw [rounds_succ]
  go_wp2_with fail
  go_ret
  exact ⟨rfl, rfl⟩
theorem add_fn (x y : Int) (w : World) (h1 : -9223372036854775808 ≤ x + y) (h2 : x + y ≤ 9223372036854775807) :
    Calls Try.prog 138 #[.int .i64 x, .int .i64 y] w fun e w' => e = .returned (.int .i64 (x + y)) ∧ w = w' := by
  go_enter Try.func138, Try.ntmps138
  go_wp2
  go_ret
  exact ⟨by simp <;> (unfold wrap64; omega), rfl⟩
theorem sub_fn (x y : Int) (w : World) (h1 : -9223372036854775808 ≤ x - y) (h2 : x - y ≤ 9223372036854775807) :
    Calls Try.prog 139 #[.int .i64 x, .int .i64 y] w fun e w' => e = .returned (.int .i64 (x - y)) ∧ w = w' := by
  go_enter Try.func139, Try.ntmps139
  go_wp2
  go_ret
  exact ⟨by simp <;> (unfold wrap64; omega), rfl⟩
theorem mul_fn (x y : Int) (w : World) (h1 : -9223372036854775808 ≤ x * y) (h2 : x * y ≤ 9223372036854775807) :
    Calls Try.prog 140 #[.int .i64 x, .int .i64 y] w fun e w' => e = .returned (.int .i64 (x * y)) ∧ w = w' := by
  go_enter Try.func140, Try.ntmps140
  go_wp2
  go_ret
  exact ⟨by simp <;> (unfold wrap64; omega), rfl⟩
def bot (f : Int → Int → Int) (a0 a1 b0 b1 : Int) : Int := mn (mn (mn (f a0 b0) (f a0 b1)) (f a1 b0)) (f a1 b1)
def top (f : Int → Int → Int) (a0 a1 b0 b1 : Int) : Int := mx (mx (mx (f a0 b0) (f a0 b1)) (f a1 b0)) (f a1 b1)
def FnOk (n : Nat) (f : Int → Int → Int) (a0 a1 b0 b1 : Int) : Prop := ∀ (x y : Int) (w : World), (x = a0 ∨ x = a1) → (y = b0 ∨ y = b1) → Calls Try.prog n #[.int .i64 x, .int .i64 y] w fun e w' => e = .returned (.int .i64 (f x y)) ∧ w = w'
set_option maxRecDepth 100000 in
set_option maxHeartbeats 2000000 in
theorem ends_add (f : Int → Int → Int) (a0 a1 b0 b1 : Int) (w : World) (hf : FnOk 138 f a0 a1 b0 b1) :
    Calls Try.prog 137 #[.agg #[.int .i64 a0, .int .i64 a1], .agg #[.int .i64 b0, .int .i64 b1], .func (.func 138) #[] #[]] w fun e w' => e = .returned (.tuple #[.agg #[.int .i64 (ofP (bot f a0 a1 b0 b1) (top f a0 a1 b0 b1)).1, .int .i64 (ofP (bot f a0 a1 b0 b1) (top f a0 a1 b0 b1)).2], .agg #[.bool (decide (bot f a0 a1 b0 b1 < -2147483648) || decide (2147483647 < top f a0 a1 b0 b1)), .bool false]]) ∧ Below w.heap.size w w' := by
  replace hf := Lib.hid hf
  go_enter Try.func137, Try.ntmps137
  go_upto_region 1 with fail
  refine wp_world (fun W => W.heap[w.heap.size]? = some (.cells #[.int .i64 a0, .int .i64 a1] 48 (0, 0)) ∧ W.heap[w.heap.size + 1]? = some (.cells #[.int .i64 b0, .int .i64 b1] 48 (0, 0)) ∧ W.heap[w.heap.size + 2]? = some (.cells #[.int .i64 0, .int .i64 0] 48 (0, 0)) ∧ W.heap[w.heap.size + 3]? = some (.cells #[.bool false, .bool false] 96 (0, 0)) ∧ Below w.heap.size w W) ⟨blkUp (blkUp (blkUp (blkA _ _ (by first | rfl | simp only [World.size_alloc])) _) _) _, blkUp (blkUp (blkA _ _ (by first | rfl | simp only [World.size_alloc])) _) _, blkUp (blkA _ _ (by first | rfl | simp only [World.size_alloc])) _, blkA _ _ (by first | rfl | simp only [World.size_alloc]), ((((Below.refl _ _).alloc (by first | exact Nat.le_refl _ | (simp only [World.size_alloc]; omega)) _).alloc (by first | exact Nat.le_refl _ | (simp only [World.size_alloc]; omega)) _).alloc (by first | exact Nat.le_refl _ | (simp only [World.size_alloc]; omega)) _).alloc (by first | exact Nat.le_refl _ | (simp only [World.size_alloc]; omega)) _⟩ ?_
  rintro w1 ⟨k0, k1, k2, k3, hB⟩
  have r0 := row_of k0
  have f0 := frozen_of k0
  have z0 := blk_lt k0
  have r1 := row_of k1
  have f1 := frozen_of k1
  have z1 := blk_lt k1
  have r2 := row_of k2
  have f2 := frozen_of k2
  have z2 := blk_lt k2
  have r3 := row_of k3
  have f3 := frozen_of k3
  have z3 := blk_lt k3
  have hS : w1.cell? ⟨w.heap.size, 0, none⟩ = some (.int .i64 a0) ∧ w1.cell? ⟨w.heap.size, 1, none⟩ = some (.int .i64 a1) ∧ w1.cell? ⟨w.heap.size + 1, 0, none⟩ = some (.int .i64 b0) ∧ w1.cell? ⟨w.heap.size + 1, 1, none⟩ = some (.int .i64 b1) := ⟨row_of k0 0, row_of k0 1, row_of k1 0, row_of k1 1⟩
  have hS2 := hS
  obtain ⟨q0, q1, q2, q3⟩ := hS2
  clear r0 f0 z0 r1 f1 z1 r2 f2 z2 r3 f3 z3
  go_region_held3 (fun W => W.cell? ⟨w.heap.size, 0, none⟩ = some (.int .i64 a0) ∧ W.cell? ⟨w.heap.size, 1, none⟩ = some (.int .i64 a1) ∧ W.cell? ⟨w.heap.size + 1, 0, none⟩ = some (.int .i64 b0) ∧ W.cell? ⟨w.heap.size + 1, 1, none⟩ = some (.int .i64 b1)) (first | assumption | exact hS | go_keep) (first | (go_at_call 138; refine (hf.out _ _ _ (by simp) (by simp)).mono ?_; rintro e wn ⟨rfl, rfl⟩))
  go_upto_region 2 with fail
  clear hS q0 q1 q2 q3
  have hz1 : w.heap.size + 3 < w1.heap.size := blk_lt k3
  refine wp_world (fun W => W.heap[w.heap.size]? = some (.cells #[.int .i64 a0, .int .i64 a1] 48 (0, 0)) ∧ W.heap[w.heap.size + 1]? = some (.cells #[.int .i64 b0, .int .i64 b1] 48 (0, 0)) ∧ W.heap[w.heap.size + 2]? = some (.cells #[.int .i64 0, .int .i64 0] 48 (0, 0)) ∧ W.heap[w.heap.size + 3]? = some (.cells #[.bool false, .bool false] 96 (0, 0)) ∧ W.heap[w1.heap.size]? = some (.cells #[.int .i64 (f a0 b0), .int .i64 (f a0 b1), .int .i64 (f a1 b0), .int .i64 (f a1 b1)] 3 (0, 0)) ∧ Below w.heap.size w W) ⟨blkUp (k0) _, blkUp (k1) _, blkUp (k2) _, blkUp (k3) _, blkA _ _ (by first | rfl | simp only [World.size_alloc]), ((hB).alloc (by first | exact hB.size | (simp only [World.size_alloc]; omega)) _).drew⟩ ?_
  rintro w2 ⟨k0, k1, k2, k3, k4, hB⟩
  have r0 := row_of k0
  have f0 := frozen_of k0
  have z0 := blk_lt k0
  have r1 := row_of k1
  have f1 := frozen_of k1
  have z1 := blk_lt k1
  have r2 := row_of k2
  have f2 := frozen_of k2
  have z2 := blk_lt k2
  have r3 := row_of k3
  have f3 := frozen_of k3
  have z3 := blk_lt k3
  have r4 := row_of k4
  have f4 := frozen_of k4
  have z4 := blk_lt k4
  clear k0 r0 f0 z0 k1 r1 f1 z1
  go_wp2_with fail
  refine (min4 _ _ _ _ _ _ z4 (row_of k4 0) (row_of k4 1) (row_of k4 2) (row_of k4 3)).mono ?_
  rw [show mn (mn (mn (f a0 b0) (f a0 b1)) (f a1 b0)) (f a1 b1) = bot f a0 a1 b0 b1 from rfl]
  rintro e wq ⟨rfl, rfl⟩
  go_wp2_with fail
  refine (max4 _ _ _ _ _ _ z4 (row_of k4 0) (row_of k4 1) (row_of k4 2) (row_of k4 3)).mono ?_
  rw [show mx (mx (mx (f a0 b0) (f a0 b1)) (f a1 b0)) (f a1 b1) = top f a0 a1 b0 b1 from rfl]
  rintro e wq ⟨rfl, rfl⟩
  clear k4 r4 f4 z4
  generalize hLd : bot f a0 a1 b0 b1 = L
  generalize hHd : top f a0 a1 b0 b1 = H
  go_upto_region 3 with fail
  clear hf
  by_cases hL : L < -2147483648
  · have hd := decide_eq_true hL
    go_wp2_with fail
    refine (of_any _ _ _).mono ?_
    rintro e w3 ⟨rfl, hb⟩
    replace k2 := blk_keep hb k2
    replace k3 := blk_keep hb k3
    replace hB := hB.trans (hb.mono hB.size)
    clear r2 f2 z2 r3 f3 z3
    clear hb
    have r2 := row_of k2
    have f2 := frozen_of k2
    have z2 := blk_lt k2
    have r3 := row_of k3
    have f3 := frozen_of k3
    have z3 := blk_lt k3
    go_wp2_with fail
    generalize hWF : (World.setCell (World.setCell (World.setCell (World.setCell _ _ _) _ _) _ _) _ _) = WF
    obtain ⟨kF, kG, bF⟩ := put22 (by omega) k2 k3 _ _ _ _ hWF.symm
    clear r2 f2 z2 r3 f3 z3
    clear hWF
    have rF := row_of kF
    have rG := row_of kG
    exact bodyPost_ret (v := .tuple #[.agg #[.int .i64 (ofP L H).1, .int .i64 (ofP L H).2], .agg #[.bool (true), .bool false]]) (by simp [results, Try.results137, go_sem, rF, rG]) rfl ⟨by subst hLd hHd; rw [hd]; rfl, hB.trans (bF _ (by show w.heap.size ≤ w.heap.size + 2; omega) (by show w.heap.size ≤ w.heap.size + 3; omega))⟩
  · have hd := decide_eq_false hL
    go_wp2_with fail
    refine (of_any _ _ _).mono ?_
    rintro e w3 ⟨rfl, hb⟩
    replace k2 := blk_keep hb k2
    replace k3 := blk_keep hb k3
    replace hB := hB.trans (hb.mono hB.size)
    clear r2 f2 z2 r3 f3 z3
    clear hb
    have r2 := row_of k2
    have f2 := frozen_of k2
    have z2 := blk_lt k2
    have r3 := row_of k3
    have f3 := frozen_of k3
    have z3 := blk_lt k3
    go_wp2_with fail
    generalize hWF : (World.setCell (World.setCell (World.setCell (World.setCell _ _ _) _ _) _ _) _ _) = WF
    obtain ⟨kF, kG, bF⟩ := put22 (by omega) k2 k3 _ _ _ _ hWF.symm
    clear r2 f2 z2 r3 f3 z3
    clear hWF
    have rF := row_of kF
    have rG := row_of kG
    exact bodyPost_ret (v := .tuple #[.agg #[.int .i64 (ofP L H).1, .int .i64 (ofP L H).2], .agg #[.bool (decide (2147483647 < H)), .bool false]]) (by simp [results, Try.results137, go_sem, rF, rG]) rfl ⟨by subst hLd hHd; rw [hd]; rfl, hB.trans (bF _ (by show w.heap.size ≤ w.heap.size + 2; omega) (by show w.heap.size ≤ w.heap.size + 3; omega))⟩
set_option maxRecDepth 100000 in
set_option maxHeartbeats 2000000 in
theorem ends_sub (f : Int → Int → Int) (a0 a1 b0 b1 : Int) (w : World) (hf : FnOk 139 f a0 a1 b0 b1) :
    Calls Try.prog 137 #[.agg #[.int .i64 a0, .int .i64 a1], .agg #[.int .i64 b0, .int .i64 b1], .func (.func 139) #[] #[]] w fun e w' => e = .returned (.tuple #[.agg #[.int .i64 (ofP (bot f a0 a1 b0 b1) (top f a0 a1 b0 b1)).1, .int .i64 (ofP (bot f a0 a1 b0 b1) (top f a0 a1 b0 b1)).2], .agg #[.bool (decide (bot f a0 a1 b0 b1 < -2147483648) || decide (2147483647 < top f a0 a1 b0 b1)), .bool false]]) ∧ Below w.heap.size w w' := by
  replace hf := Lib.hid hf
  go_enter Try.func137, Try.ntmps137
  go_upto_region 1 with fail
  refine wp_world (fun W => W.heap[w.heap.size]? = some (.cells #[.int .i64 a0, .int .i64 a1] 48 (0, 0)) ∧ W.heap[w.heap.size + 1]? = some (.cells #[.int .i64 b0, .int .i64 b1] 48 (0, 0)) ∧ W.heap[w.heap.size + 2]? = some (.cells #[.int .i64 0, .int .i64 0] 48 (0, 0)) ∧ W.heap[w.heap.size + 3]? = some (.cells #[.bool false, .bool false] 96 (0, 0)) ∧ Below w.heap.size w W) ⟨blkUp (blkUp (blkUp (blkA _ _ (by first | rfl | simp only [World.size_alloc])) _) _) _, blkUp (blkUp (blkA _ _ (by first | rfl | simp only [World.size_alloc])) _) _, blkUp (blkA _ _ (by first | rfl | simp only [World.size_alloc])) _, blkA _ _ (by first | rfl | simp only [World.size_alloc]), ((((Below.refl _ _).alloc (by first | exact Nat.le_refl _ | (simp only [World.size_alloc]; omega)) _).alloc (by first | exact Nat.le_refl _ | (simp only [World.size_alloc]; omega)) _).alloc (by first | exact Nat.le_refl _ | (simp only [World.size_alloc]; omega)) _).alloc (by first | exact Nat.le_refl _ | (simp only [World.size_alloc]; omega)) _⟩ ?_
  rintro w1 ⟨k0, k1, k2, k3, hB⟩
  have r0 := row_of k0
  have f0 := frozen_of k0
  have z0 := blk_lt k0
  have r1 := row_of k1
  have f1 := frozen_of k1
  have z1 := blk_lt k1
  have r2 := row_of k2
  have f2 := frozen_of k2
  have z2 := blk_lt k2
  have r3 := row_of k3
  have f3 := frozen_of k3
  have z3 := blk_lt k3
  have hS : w1.cell? ⟨w.heap.size, 0, none⟩ = some (.int .i64 a0) ∧ w1.cell? ⟨w.heap.size, 1, none⟩ = some (.int .i64 a1) ∧ w1.cell? ⟨w.heap.size + 1, 0, none⟩ = some (.int .i64 b0) ∧ w1.cell? ⟨w.heap.size + 1, 1, none⟩ = some (.int .i64 b1) := ⟨row_of k0 0, row_of k0 1, row_of k1 0, row_of k1 1⟩
  have hS2 := hS
  obtain ⟨q0, q1, q2, q3⟩ := hS2
  clear r0 f0 z0 r1 f1 z1 r2 f2 z2 r3 f3 z3
  go_region_held3 (fun W => W.cell? ⟨w.heap.size, 0, none⟩ = some (.int .i64 a0) ∧ W.cell? ⟨w.heap.size, 1, none⟩ = some (.int .i64 a1) ∧ W.cell? ⟨w.heap.size + 1, 0, none⟩ = some (.int .i64 b0) ∧ W.cell? ⟨w.heap.size + 1, 1, none⟩ = some (.int .i64 b1)) (first | assumption | exact hS | go_keep) (first | (go_at_call 139; refine (hf.out _ _ _ (by simp) (by simp)).mono ?_; rintro e wn ⟨rfl, rfl⟩))
  go_upto_region 2 with fail
  clear hS q0 q1 q2 q3
  have hz1 : w.heap.size + 3 < w1.heap.size := blk_lt k3
  refine wp_world (fun W => W.heap[w.heap.size]? = some (.cells #[.int .i64 a0, .int .i64 a1] 48 (0, 0)) ∧ W.heap[w.heap.size + 1]? = some (.cells #[.int .i64 b0, .int .i64 b1] 48 (0, 0)) ∧ W.heap[w.heap.size + 2]? = some (.cells #[.int .i64 0, .int .i64 0] 48 (0, 0)) ∧ W.heap[w.heap.size + 3]? = some (.cells #[.bool false, .bool false] 96 (0, 0)) ∧ W.heap[w1.heap.size]? = some (.cells #[.int .i64 (f a0 b0), .int .i64 (f a0 b1), .int .i64 (f a1 b0), .int .i64 (f a1 b1)] 3 (0, 0)) ∧ Below w.heap.size w W) ⟨blkUp (k0) _, blkUp (k1) _, blkUp (k2) _, blkUp (k3) _, blkA _ _ (by first | rfl | simp only [World.size_alloc]), ((hB).alloc (by first | exact hB.size | (simp only [World.size_alloc]; omega)) _).drew⟩ ?_
  rintro w2 ⟨k0, k1, k2, k3, k4, hB⟩
  have r0 := row_of k0
  have f0 := frozen_of k0
  have z0 := blk_lt k0
  have r1 := row_of k1
  have f1 := frozen_of k1
  have z1 := blk_lt k1
  have r2 := row_of k2
  have f2 := frozen_of k2
  have z2 := blk_lt k2
  have r3 := row_of k3
  have f3 := frozen_of k3
  have z3 := blk_lt k3
  have r4 := row_of k4
  have f4 := frozen_of k4
  have z4 := blk_lt k4
  clear k0 r0 f0 z0 k1 r1 f1 z1
  go_wp2_with fail
  refine (min4 _ _ _ _ _ _ z4 (row_of k4 0) (row_of k4 1) (row_of k4 2) (row_of k4 3)).mono ?_
  rw [show mn (mn (mn (f a0 b0) (f a0 b1)) (f a1 b0)) (f a1 b1) = bot f a0 a1 b0 b1 from rfl]
  rintro e wq ⟨rfl, rfl⟩
  go_wp2_with fail
  refine (max4 _ _ _ _ _ _ z4 (row_of k4 0) (row_of k4 1) (row_of k4 2) (row_of k4 3)).mono ?_
  rw [show mx (mx (mx (f a0 b0) (f a0 b1)) (f a1 b0)) (f a1 b1) = top f a0 a1 b0 b1 from rfl]
  rintro e wq ⟨rfl, rfl⟩
  clear k4 r4 f4 z4
  generalize hLd : bot f a0 a1 b0 b1 = L
  generalize hHd : top f a0 a1 b0 b1 = H
  go_upto_region 3 with fail
  clear hf
  by_cases hL : L < -2147483648
  · have hd := decide_eq_true hL
    go_wp2_with fail
    refine (of_any _ _ _).mono ?_
    rintro e w3 ⟨rfl, hb⟩
    replace k2 := blk_keep hb k2
    replace k3 := blk_keep hb k3
    replace hB := hB.trans (hb.mono hB.size)
    clear r2 f2 z2 r3 f3 z3
    clear hb
    have r2 := row_of k2
    have f2 := frozen_of k2
    have z2 := blk_lt k2
    have r3 := row_of k3
    have f3 := frozen_of k3
    have z3 := blk_lt k3
    go_wp2_with fail
    generalize hWF : (World.setCell (World.setCell (World.setCell (World.setCell _ _ _) _ _) _ _) _ _) = WF
    obtain ⟨kF, kG, bF⟩ := put22 (by omega) k2 k3 _ _ _ _ hWF.symm
    clear r2 f2 z2 r3 f3 z3
    clear hWF
    have rF := row_of kF
    have rG := row_of kG
    exact bodyPost_ret (v := .tuple #[.agg #[.int .i64 (ofP L H).1, .int .i64 (ofP L H).2], .agg #[.bool (true), .bool false]]) (by simp [results, Try.results137, go_sem, rF, rG]) rfl ⟨by subst hLd hHd; rw [hd]; rfl, hB.trans (bF _ (by show w.heap.size ≤ w.heap.size + 2; omega) (by show w.heap.size ≤ w.heap.size + 3; omega))⟩
  · have hd := decide_eq_false hL
    go_wp2_with fail
    refine (of_any _ _ _).mono ?_
    rintro e w3 ⟨rfl, hb⟩
    replace k2 := blk_keep hb k2
    replace k3 := blk_keep hb k3
    replace hB := hB.trans (hb.mono hB.size)
    clear r2 f2 z2 r3 f3 z3
    clear hb
    have r2 := row_of k2
    have f2 := frozen_of k2
    have z2 := blk_lt k2
    have r3 := row_of k3
    have f3 := frozen_of k3
    have z3 := blk_lt k3
    go_wp2_with fail
    generalize hWF : (World.setCell (World.setCell (World.setCell (World.setCell _ _ _) _ _) _ _) _ _) = WF
    obtain ⟨kF, kG, bF⟩ := put22 (by omega) k2 k3 _ _ _ _ hWF.symm
    clear r2 f2 z2 r3 f3 z3
    clear hWF
    have rF := row_of kF
    have rG := row_of kG
    exact bodyPost_ret (v := .tuple #[.agg #[.int .i64 (ofP L H).1, .int .i64 (ofP L H).2], .agg #[.bool (decide (2147483647 < H)), .bool false]]) (by simp [results, Try.results137, go_sem, rF, rG]) rfl ⟨by subst hLd hHd; rw [hd]; rfl, hB.trans (bF _ (by show w.heap.size ≤ w.heap.size + 2; omega) (by show w.heap.size ≤ w.heap.size + 3; omega))⟩
end Go.Proofs.Ytbcbcambkjhhhaa
namespace Go.Proofs.Ytbcbcambkjhhhaa
open Go.RowKit
theorem nrm_in (l h : Int) (hh : l ≤ h) : nrm l h = (l, h) := if_neg (by omega)
theorem ofP_in (l h : Int) (h1 : -2147483648 ≤ l) (h2 : h ≤ 2147483647) (hh : l ≤ h) : ofP l h = (l, h) := by
  unfold ofP mx mn
  rw [nrm_in _ _ (by split <;> split <;> omega)]
  congr 1 <;> split <;> omega
theorem const_in (n : Int) (w : World) (h1 : -2147483648 ≤ n) (h2 : n ≤ 2147483647) :
    Calls Try.prog 34 #[.int .i64 n] w fun e w' => e = .returned (.agg #[.int .i64 n, .int .i64 n]) ∧ Below w.heap.size w w' := by
  have h := const_any n w
  rwa [ofP_in n n h1 h2 (Int.le_refl n)] at h
theorem of_in (l h : Int) (w : World) (h1 : -2147483648 ≤ l) (h2 : h ≤ 2147483647) (hh : l ≤ h) :
    Calls Try.prog 68 #[.int .i64 l, .int .i64 h] w fun e w' => e = .returned (.agg #[.int .i64 l, .int .i64 h]) ∧ Below w.heap.size w w' := by
  have h := of_any l h w
  rwa [ofP_in l _ h1 h2 hh] at h
set_option maxRecDepth 100000 in
theorem do_fadd (f : Int → Int → Int) (a0 a1 b0 b1 : Int) (w : World) (ha : a0 ≤ a1) (hb : b0 ≤ b1) (hf : FnOk 138 f a0 a1 b0 b1) :
    Calls Try.prog 112 #[.int .i64 4, .agg #[.int .i64 a0, .int .i64 a1], .agg #[.int .i64 b0, .int .i64 b1]] w fun e w' => e = .returned (.tuple #[.agg #[.int .i64 (ofP (bot f a0 a1 b0 b1) (top f a0 a1 b0 b1)).1, .int .i64 (ofP (bot f a0 a1 b0 b1) (top f a0 a1 b0 b1)).2], .agg #[.bool (decide (bot f a0 a1 b0 b1 < -2147483648) || decide (2147483647 < top f a0 a1 b0 b1)), .bool false]]) ∧ Below w.heap.size w w' := by
  have hd1 : decide (a1 < a0) = false := by simp; omega
  have hd2 : decide (b1 < b0) = false := by simp; omega
  replace hf := Lib.hid hf
  clear ha hb
  go_enter Try.func112, Try.ntmps112
  go_upto_region 1 with fail
  refine wp_world (fun W => W.heap[w.heap.size]? = some (.cells #[.int .i64 a0, .int .i64 a1] 48 (0, 0)) ∧ W.heap[w.heap.size + 1]? = some (.cells #[.int .i64 b0, .int .i64 b1] 48 (0, 0)) ∧ W.heap[w.heap.size + 2]? = some (.cells #[.int .i64 0, .int .i64 0] 48 (0, 0)) ∧ W.heap[w.heap.size + 3]? = some (.cells #[.bool false, .bool false] 96 (0, 0)) ∧ Below w.heap.size w W) ⟨blkUp (blkUp (blkUp (blkA _ _ (by first | rfl | simp only [World.size_alloc])) _) _) _, blkUp (blkUp (blkA _ _ (by first | rfl | simp only [World.size_alloc])) _) _, blkUp (blkA _ _ (by first | rfl | simp only [World.size_alloc])) _, blkA _ _ (by first | rfl | simp only [World.size_alloc]), ((((Below.refl _ _).alloc (by first | exact Nat.le_refl _ | (simp only [World.size_alloc]; omega)) _).alloc (by first | exact Nat.le_refl _ | (simp only [World.size_alloc]; omega)) _).alloc (by first | exact Nat.le_refl _ | (simp only [World.size_alloc]; omega)) _).alloc (by first | exact Nat.le_refl _ | (simp only [World.size_alloc]; omega)) _⟩ ?_
  rintro w1 ⟨k0, k1, k2, k3, hB⟩
  have r0 := row_of k0
  have f0 := frozen_of k0
  have z0 := blk_lt k0
  have r1 := row_of k1
  have f1 := frozen_of k1
  have z1 := blk_lt k1
  have r2 := row_of k2
  have f2 := frozen_of k2
  have z2 := blk_lt k2
  have r3 := row_of k3
  have f3 := frozen_of k3
  have z3 := blk_lt k3
  go_wp2_with fail
  refine (empty_any _ _ _).mono ?_
  rintro e w2 ⟨rfl, hb⟩
  replace k0 := blk_keep hb k0
  replace k1 := blk_keep hb k1
  replace k2 := blk_keep hb k2
  replace k3 := blk_keep hb k3
  replace hB := hB.trans (hb.mono hB.size)
  clear r0 f0 z0 r1 f1 z1 r2 f2 z2 r3 f3 z3
  clear hb
  have r0 := row_of k0
  have f0 := frozen_of k0
  have z0 := blk_lt k0
  have r1 := row_of k1
  have f1 := frozen_of k1
  have z1 := blk_lt k1
  have r2 := row_of k2
  have f2 := frozen_of k2
  have z2 := blk_lt k2
  have r3 := row_of k3
  have f3 := frozen_of k3
  have z3 := blk_lt k3
  go_wp2_with fail
  refine (empty_any _ _ _).mono ?_
  rintro e w3 ⟨rfl, hb⟩
  replace k0 := blk_keep hb k0
  replace k1 := blk_keep hb k1
  replace k2 := blk_keep hb k2
  replace k3 := blk_keep hb k3
  replace hB := hB.trans (hb.mono hB.size)
  clear r0 f0 z0 r1 f1 z1 r2 f2 z2 r3 f3 z3
  clear hb
  have r0 := row_of k0
  have f0 := frozen_of k0
  have z0 := blk_lt k0
  have r1 := row_of k1
  have f1 := frozen_of k1
  have z1 := blk_lt k1
  have r2 := row_of k2
  have f2 := frozen_of k2
  have z2 := blk_lt k2
  have r3 := row_of k3
  have f3 := frozen_of k3
  have z3 := blk_lt k3
  go_wp2_with fail
  refine (ends_add f _ _ _ _ _ hf.out).mono ?_
  rintro e w4 ⟨rfl, hb⟩
  replace k0 := blk_keep hb k0
  replace k1 := blk_keep hb k1
  replace k2 := blk_keep hb k2
  replace k3 := blk_keep hb k3
  replace hB := hB.trans (hb.mono hB.size)
  clear r0 f0 z0 r1 f1 z1 r2 f2 z2 r3 f3 z3
  clear hb
  have r0 := row_of k0
  have f0 := frozen_of k0
  have z0 := blk_lt k0
  have r1 := row_of k1
  have f1 := frozen_of k1
  have z1 := blk_lt k1
  have r2 := row_of k2
  have f2 := frozen_of k2
  have z2 := blk_lt k2
  have r3 := row_of k3
  have f3 := frozen_of k3
  have z3 := blk_lt k3
  go_wp2_with fail
  generalize hWF : (World.setCell (World.setCell (World.setCell (World.setCell _ _ _) _ _) _ _) _ _) = WF
  obtain ⟨kF, kG, bF⟩ := put22 (by omega) k2 k3 _ _ _ _ hWF.symm
  clear r0 f0 z0 r1 f1 z1 r2 f2 z2 r3 f3 z3
  clear hWF
  have rF := row_of kF
  have rG := row_of kG
  exact bodyPost_ret (v := .tuple #[.agg #[.int .i64 (ofP (bot f a0 a1 b0 b1) (top f a0 a1 b0 b1)).1, .int .i64 (ofP (bot f a0 a1 b0 b1) (top f a0 a1 b0 b1)).2], .agg #[.bool (decide (bot f a0 a1 b0 b1 < -2147483648) || decide (2147483647 < top f a0 a1 b0 b1)), .bool false]]) (by simp [results, Try.results112, go_sem, rF, rG]) rfl ⟨rfl, hB.trans (bF _ (by show w.heap.size ≤ w.heap.size + 2; omega) (by show w.heap.size ≤ w.heap.size + 3; omega))⟩
set_option maxRecDepth 100000 in
theorem do_fsub (f : Int → Int → Int) (a0 a1 b0 b1 : Int) (w : World) (ha : a0 ≤ a1) (hb : b0 ≤ b1) (hf : FnOk 139 f a0 a1 b0 b1) :
    Calls Try.prog 112 #[.int .i64 5, .agg #[.int .i64 a0, .int .i64 a1], .agg #[.int .i64 b0, .int .i64 b1]] w fun e w' => e = .returned (.tuple #[.agg #[.int .i64 (ofP (bot f a0 a1 b0 b1) (top f a0 a1 b0 b1)).1, .int .i64 (ofP (bot f a0 a1 b0 b1) (top f a0 a1 b0 b1)).2], .agg #[.bool (decide (bot f a0 a1 b0 b1 < -2147483648) || decide (2147483647 < top f a0 a1 b0 b1)), .bool false]]) ∧ Below w.heap.size w w' := by
  have hd1 : decide (a1 < a0) = false := by simp; omega
  have hd2 : decide (b1 < b0) = false := by simp; omega
  replace hf := Lib.hid hf
  clear ha hb
  go_enter Try.func112, Try.ntmps112
  go_upto_region 1 with fail
  refine wp_world (fun W => W.heap[w.heap.size]? = some (.cells #[.int .i64 a0, .int .i64 a1] 48 (0, 0)) ∧ W.heap[w.heap.size + 1]? = some (.cells #[.int .i64 b0, .int .i64 b1] 48 (0, 0)) ∧ W.heap[w.heap.size + 2]? = some (.cells #[.int .i64 0, .int .i64 0] 48 (0, 0)) ∧ W.heap[w.heap.size + 3]? = some (.cells #[.bool false, .bool false] 96 (0, 0)) ∧ Below w.heap.size w W) ⟨blkUp (blkUp (blkUp (blkA _ _ (by first | rfl | simp only [World.size_alloc])) _) _) _, blkUp (blkUp (blkA _ _ (by first | rfl | simp only [World.size_alloc])) _) _, blkUp (blkA _ _ (by first | rfl | simp only [World.size_alloc])) _, blkA _ _ (by first | rfl | simp only [World.size_alloc]), ((((Below.refl _ _).alloc (by first | exact Nat.le_refl _ | (simp only [World.size_alloc]; omega)) _).alloc (by first | exact Nat.le_refl _ | (simp only [World.size_alloc]; omega)) _).alloc (by first | exact Nat.le_refl _ | (simp only [World.size_alloc]; omega)) _).alloc (by first | exact Nat.le_refl _ | (simp only [World.size_alloc]; omega)) _⟩ ?_
  rintro w1 ⟨k0, k1, k2, k3, hB⟩
  have r0 := row_of k0
  have f0 := frozen_of k0
  have z0 := blk_lt k0
  have r1 := row_of k1
  have f1 := frozen_of k1
  have z1 := blk_lt k1
  have r2 := row_of k2
  have f2 := frozen_of k2
  have z2 := blk_lt k2
  have r3 := row_of k3
  have f3 := frozen_of k3
  have z3 := blk_lt k3
  go_wp2_with fail
  refine (empty_any _ _ _).mono ?_
  rintro e w2 ⟨rfl, hb⟩
  replace k0 := blk_keep hb k0
  replace k1 := blk_keep hb k1
  replace k2 := blk_keep hb k2
  replace k3 := blk_keep hb k3
  replace hB := hB.trans (hb.mono hB.size)
  clear r0 f0 z0 r1 f1 z1 r2 f2 z2 r3 f3 z3
  clear hb
  have r0 := row_of k0
  have f0 := frozen_of k0
  have z0 := blk_lt k0
  have r1 := row_of k1
  have f1 := frozen_of k1
  have z1 := blk_lt k1
  have r2 := row_of k2
  have f2 := frozen_of k2
  have z2 := blk_lt k2
  have r3 := row_of k3
  have f3 := frozen_of k3
  have z3 := blk_lt k3
  go_wp2_with fail
  refine (empty_any _ _ _).mono ?_
  rintro e w3 ⟨rfl, hb⟩
  replace k0 := blk_keep hb k0
  replace k1 := blk_keep hb k1
  replace k2 := blk_keep hb k2
  replace k3 := blk_keep hb k3
  replace hB := hB.trans (hb.mono hB.size)
  clear r0 f0 z0 r1 f1 z1 r2 f2 z2 r3 f3 z3
  clear hb
  have r0 := row_of k0
  have f0 := frozen_of k0
  have z0 := blk_lt k0
  have r1 := row_of k1
  have f1 := frozen_of k1
  have z1 := blk_lt k1
  have r2 := row_of k2
  have f2 := frozen_of k2
  have z2 := blk_lt k2
  have r3 := row_of k3
  have f3 := frozen_of k3
  have z3 := blk_lt k3
  go_wp2_with fail
  refine (ends_sub f _ _ _ _ _ hf.out).mono ?_
  rintro e w4 ⟨rfl, hb⟩
  replace k0 := blk_keep hb k0
  replace k1 := blk_keep hb k1
  replace k2 := blk_keep hb k2
  replace k3 := blk_keep hb k3
  replace hB := hB.trans (hb.mono hB.size)
  clear r0 f0 z0 r1 f1 z1 r2 f2 z2 r3 f3 z3
  clear hb
  have r0 := row_of k0
  have f0 := frozen_of k0
  have z0 := blk_lt k0
  have r1 := row_of k1
  have f1 := frozen_of k1
  have z1 := blk_lt k1
  have r2 := row_of k2
  have f2 := frozen_of k2
  have z2 := blk_lt k2
  have r3 := row_of k3
  have f3 := frozen_of k3
  have z3 := blk_lt k3
  go_wp2_with fail
  generalize hWF : (World.setCell (World.setCell (World.setCell (World.setCell _ _ _) _ _) _ _) _ _) = WF
  obtain ⟨kF, kG, bF⟩ := put22 (by omega) k2 k3 _ _ _ _ hWF.symm
  clear r0 f0 z0 r1 f1 z1 r2 f2 z2 r3 f3 z3
  clear hWF
  have rF := row_of kF
  have rG := row_of kG
  exact bodyPost_ret (v := .tuple #[.agg #[.int .i64 (ofP (bot f a0 a1 b0 b1) (top f a0 a1 b0 b1)).1, .int .i64 (ofP (bot f a0 a1 b0 b1) (top f a0 a1 b0 b1)).2], .agg #[.bool (decide (bot f a0 a1 b0 b1 < -2147483648) || decide (2147483647 < top f a0 a1 b0 b1)), .bool false]]) (by simp [results, Try.results112, go_sem, rF, rG]) rfl ⟨rfl, hB.trans (bF _ (by show w.heap.size ≤ w.heap.size + 2; omega) (by show w.heap.size ≤ w.heap.size + 3; omega))⟩
theorem do_add (a0 a1 b0 b1 : Int) (w : World) (ha : a0 ≤ a1) (hb : b0 ≤ b1) (h1 : -2147483648 ≤ a0) (h2 : a1 ≤ 2147483647) (h3 : -2147483648 ≤ b0) (h4 : b1 ≤ 2147483647) :
    Calls Try.prog 112 #[.int .i64 4, .agg #[.int .i64 a0, .int .i64 a1], .agg #[.int .i64 b0, .int .i64 b1]] w fun e w' => e = .returned (.tuple #[.agg #[.int .i64 (ofP (a0 + b0) (a1 + b1)).1, .int .i64 (ofP (a0 + b0) (a1 + b1)).2], .agg #[.bool (decide (a0 + b0 < -2147483648) || decide (2147483647 < a1 + b1)), .bool false]]) ∧ Below w.heap.size w w' := by
  have h := do_fadd (fun x y => x + y) a0 a1 b0 b1 w ha hb (fun x y w hx hy => add_fn x y w (by omega) (by omega))
  have eL : bot (fun x y => x + y) a0 a1 b0 b1 = a0 + b0 := by unfold bot mn; dsimp only; repeat' split
                                                               all_goals omega
  have eH : top (fun x y => x + y) a0 a1 b0 b1 = a1 + b1 := by unfold top mx; dsimp only; repeat' split
                                                               all_goals omega
  rwa [eL, eH] at h
theorem do_sub (a0 a1 b0 b1 : Int) (w : World) (ha : a0 ≤ a1) (hb : b0 ≤ b1) (h1 : -2147483648 ≤ a0) (h2 : a1 ≤ 2147483647) (h3 : -2147483648 ≤ b0) (h4 : b1 ≤ 2147483647) :
    Calls Try.prog 112 #[.int .i64 5, .agg #[.int .i64 a0, .int .i64 a1], .agg #[.int .i64 b0, .int .i64 b1]] w fun e w' => e = .returned (.tuple #[.agg #[.int .i64 (ofP (a0 - b1) (a1 - b0)).1, .int .i64 (ofP (a0 - b1) (a1 - b0)).2], .agg #[.bool (decide (a0 - b1 < -2147483648) || decide (2147483647 < a1 - b0)), .bool false]]) ∧ Below w.heap.size w w' := by
  have h := do_fsub (fun x y => x - y) a0 a1 b0 b1 w ha hb (fun x y w hx hy => sub_fn x y w (by omega) (by omega))
  have eL : bot (fun x y => x - y) a0 a1 b0 b1 = a0 - b1 := by unfold bot mn; dsimp only; repeat' split
                                                               all_goals omega
  have eH : top (fun x y => x - y) a0 a1 b0 b1 = a1 - b0 := by unfold top mx; dsimp only; repeat' split
                                                               all_goals omega
  rwa [eL, eH] at h
end Go.Proofs.Ytbcbcambkjhhhaa
namespace Go.Proofs.Ytbcbcambkjhhhaa
open Go.RowKit
theorem wr64 (x : Int) (h1 : -9223372036854775808 ≤ x) (h2 : x ≤ 9223372036854775807) : IntKind.i64.wrap x = x := by
  simp [IntKind.wrap, IntKind.bits, IntKind.signed]
  omega
end Go.Proofs.Ytbcbcambkjhhhaa
