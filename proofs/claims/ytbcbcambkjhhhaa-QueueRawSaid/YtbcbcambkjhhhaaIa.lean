/-
  itv's small calls: what they tell, plainly.
-/
import Derived.Test.YtbcbcambkjhhhaaChecked
import Derived.WalkKit
import Derived.ProofKit
import Derived.Below
import Derived.Handy
import Derived.Lib.Hide
import Derived.IntWalk
import Derived.Deep.WholeRow
import Derived.Deep.Cut
import Derived.Deep.RegionHeld3
namespace Go.Proofs.Ytbcbcambkjhhhaa
open Go.RowKit

theorem blk_lt {W : World} {b : Nat} {x : Obj} (h : W.heap[b]? = some x) : b < W.heap.size := by
  rcases Nat.lt_or_ge b W.heap.size with h1 | h1
  · exact h1
  · rw [Array.getElem?_eq_none h1] at h; cases h
theorem blkA (W : World) (x : Obj) {b : Nat} (h : W.heap.size = b) : (W.alloc x).heap[b]? = some x := by
  subst h
  exact heap_alloc_new W x
theorem blk_keep {W W1 : World} {b : Nat} {x : Obj} (hb : Below W.heap.size W W1) (h : W.heap[b]? = some x) : W1.heap[b]? = some x := (hb.block b (blk_lt h)).trans h
theorem blkUp {W : World} {b : Nat} {x : Obj} (h : W.heap[b]? = some x) (ob : Obj) : (W.alloc ob).heap[b]? = some x := blk_keep ((Below.refl _ W).alloc (Nat.le_refl _) ob) h
theorem row_of {W : World} {b : Nat} {R : Array Value} {t : TypeId} {fr : Nat × Nat} (h : W.heap[b]? = some (.cells R t fr)) : ∀ o, W.cell? ⟨b, o, none⟩ = R[o]? := fun o => cell_of_row W b o R t fr h
theorem frozen_of {W : World} {b : Nat} {R : Array Value} {t : TypeId} (h : W.heap[b]? = some (.cells R t (0, 0))) (o : Nat) : W.frozen? ⟨b, o, none⟩ = false := by simp [World.frozen?, h]
theorem wp_world {P : Program} {c : Code} {Q : Exit → Act → World → Prop} {a : Act} {w : World} (F : World → Prop) (hF : F w) (h : ∀ W, F W → c.wp P Q a W) : c.wp P Q a w := h w hF

theorem blk_set {W : World} {b g o : Nat} {x : Obj} {v : Value} (h : W.heap[b]? = some x) (hne : b ≠ g) : (W.setCell ⟨g, o, none⟩ v).heap[b]? = some x := by
  rw [Below.heap_setCell _ _ _ _ hne]
  exact h
theorem seta {W : World} {n : Nat} {t : TypeId} {a b v : Value} (h : W.heap[n]? = some (.cells #[a, b] t (0, 0))) : (W.setCell ⟨n, 0, none⟩ v).heap[n]? = some (.cells #[v, b] t (0, 0)) := by simp [World.setCell, Array.getElem?_modify, h]
theorem setb {W : World} {n : Nat} {t : TypeId} {a b v : Value} (h : W.heap[n]? = some (.cells #[a, b] t (0, 0))) : (W.setCell ⟨n, 1, none⟩ v).heap[n]? = some (.cells #[a, v] t (0, 0)) := by simp [World.setCell, Array.getElem?_modify, h]
/-- A pair is stored into a block: the block, all others. -/
theorem put2 {W WF : World} {n : Nat} {t : TypeId} {d0 d1 : Value} (h : W.heap[n]? = some (.cells #[d0, d1] t (0, 0))) (v0 v1 : Value) (hW : WF = (W.setCell ⟨n, 0, none⟩ v0).setCell ⟨n, 1, none⟩ v1) :
    WF.heap[n]? = some (.cells #[v0, v1] t (0, 0)) ∧ (∀ (b : Nat) (x : Obj), b ≠ n → W.heap[b]? = some x → WF.heap[b]? = some x) ∧ (∀ B, B ≤ n → Below B W WF) ∧ WF.heap.size = W.heap.size := by
  subst hW
  refine ⟨by simp [World.setCell, Array.getElem?_modify, h], fun b x hb hx => blk_set (blk_set hx hb) hb, fun B hB => ?_, by simp [World.setCell]⟩
  exact ((Below.refl _ W).setCell (p := ⟨n, 0, none⟩) hB v0).setCell (p := ⟨n, 1, none⟩) hB v1

/-- The empty one is from 1 to 0. -/
def nrm (l h : Int) : Int × Int := if h < l then (1, 0) else (l, h)
/-- The greater one, the lesser one: as the language's words reckon them. -/
def mx (x y : Int) : Int := if x < y then y else x
def mn (x y : Int) : Int := if y < x then y else x
/-- Those from one to another one that a variable may be. -/
def ofP (l h : Int) : Int × Int := nrm (mx l (-2147483648)) (mn h 2147483647)

theorem empty_any (l h : Int) (w : World) :
    Calls Try.prog 46 #[.agg #[.int .i64 l, .int .i64 h]] w fun e w' => e = .returned (.bool (decide (h < l))) ∧ Below w.heap.size w w' := by
  go_enter Try.func46, Try.ntmps46
  go_wp2
  go_ret
  exact ⟨by simp, by go_grown⟩

theorem none_any (w : World) :
    Calls Try.prog 78 #[] w fun e w' => e = .returned (.agg #[.int .i64 1, .int .i64 0]) ∧ Below w.heap.size w w' := by
  go_enter Try.func78, Try.ntmps78
  go_wp2
  exact bodyPost_ret (v := .agg #[.int .i64 1, .int .i64 0]) (by simp [results, Try.results78, go_sem]) rfl ⟨rfl, by go_grown⟩

theorem all_any (w : World) :
    Calls Try.prog 115 #[] w fun e w' => e = .returned (.agg #[.int .i64 (-2147483648), .int .i64 2147483647]) ∧ Below w.heap.size w w' := by
  go_enter Try.func115, Try.ntmps115
  go_wp2
  exact bodyPost_ret (v := .agg #[.int .i64 (-2147483648), .int .i64 2147483647]) (by simp [results, Try.results115, go_sem]) rfl ⟨rfl, by go_grown⟩

theorem wrap_in (l : Int) : -2147483648 ≤ wrap32 l ∧ wrap32 l ≤ 2147483647 := by unfold wrap32; omega
theorem wrap_wrap (l : Int) : wrap64 (wrap32 l) = wrap32 l := by unfold wrap64 wrap32; omega

theorem bend_any (l h : Int) (w : World) :
    Calls Try.prog 66 #[.agg #[.int .i64 l, .int .i64 h]] w fun e w' => e = .returned (.agg #[.int .i64 (wrap32 l), .int .i64 (wrap32 h)]) ∧ Below w.heap.size w w' := by
  go_enter Try.func66, Try.ntmps66
  go_wp2
  exact bodyPost_ret (v := .agg #[.int .i64 (wrap32 l), .int .i64 (wrap32 h)]) (by simp [results, Try.results66, go_sem, wrap_wrap]) rfl ⟨rfl, by go_grown⟩

theorem norm_any (l h : Int) (w : World) :
    Calls Try.prog 65 #[.agg #[.int .i64 l, .int .i64 h]] w fun e w' => e = .returned (.agg #[.int .i64 (nrm l h).1, .int .i64 (nrm l h).2]) ∧ Below w.heap.size w w' := by
  by_cases hc : h < l
  · have hd := decide_eq_true hc
    go_enter Try.func65, Try.ntmps65
    go_wp2
    exact bodyPost_ret (v := .agg #[.int .i64 (nrm l h).1, .int .i64 (nrm l h).2]) (by simp [results, Try.results65, go_sem, nrm, hc]) rfl ⟨rfl, by go_grown⟩
  · have hd := decide_eq_false hc
    have hn : nrm l h = (l, h) := if_neg hc
    rw [hn]
    go_enter Try.func65, Try.ntmps65
    go_wp2
    exact bodyPost_ret (v := .agg #[.int .i64 l, .int .i64 h]) (by simp [results, Try.results65, go_sem]) rfl ⟨rfl, by go_grown⟩

theorem has_any (l h n : Int) (w : World) :
    Calls Try.prog 45 #[.agg #[.int .i64 l, .int .i64 h], .int .i64 n] w fun e w' => e = .returned (.bool (decide (l ≤ n ∧ n ≤ h))) ∧ Below w.heap.size w w' := by
  by_cases hc : l ≤ n
  · have hd := decide_eq_true hc
    go_enter Try.func45, Try.ntmps45
    go_wp2
    go_ret
    exact ⟨by simp [hc], by go_grown⟩
  · have hd := decide_eq_false hc
    go_enter Try.func45, Try.ntmps45
    go_wp2
    go_ret
    exact ⟨by simp, by go_grown⟩

theorem rhas_any (l h n : Int) (w : World) :
    Calls Try.prog 76 #[.agg #[.int .i64 l, .int .i64 h], .int .i64 n] w fun e w' => e = .returned (.bool (decide (l ≤ n ∧ n ≤ h))) ∧ Below w.heap.size w w' := by
  by_cases hc : l ≤ n
  · have hd := decide_eq_true hc
    go_enter Try.func76, Try.ntmps76
    go_wp2
    go_ret
    exact ⟨by simp [hc], by go_grown⟩
  · have hd := decide_eq_false hc
    go_enter Try.func76, Try.ntmps76
    go_wp2
    go_ret
    exact ⟨by simp, by go_grown⟩


theorem of_gen (l h L H : Int) (hL : (if l < -2147483648 then -2147483648 else l) = L) (hH : (if 2147483647 < h then 2147483647 else h) = H) (w : World) :
    Calls Try.prog 68 #[.int .i64 l, .int .i64 h] w fun e w' => e = .returned (.agg #[.int .i64 (nrm L H).1, .int .i64 (nrm L H).2]) ∧ Below w.heap.size w w' := by
  go_enter Try.func68, Try.ntmps68
  go_upto_region 2 with fail
  refine wp_world (fun W => W.heap[w.heap.size]? = some (.cells #[.int .i64 0, .int .i64 0] 48 (0, 0)) ∧ W.heap[w.heap.size + 1]? = some (.cells #[.int .i64 L, .int .i64 H] 48 (0, 0)) ∧ Below w.heap.size w W) ⟨blkUp (blkA _ _ rfl) _, blkA _ _ (by simp), ((Below.refl _ _).alloc (Nat.le_refl _) _).alloc (by simp) _⟩ ?_
  clear hL hH
  rintro w1 ⟨k0, k1, hB1⟩
  have z0 := blk_lt k0
  have z1 := blk_lt k1
  have r1 := row_of k1
  go_wp2_with fail
  refine (empty_any _ _ _).mono ?_
  rintro e w2 ⟨rfl, hb2⟩
  replace k0 := blk_keep hb2 k0
  replace k1 := blk_keep hb2 k1
  have hB2 := hB1.trans (hb2.mono hB1.size)
  clear hb2 hB1 r1 z0 z1
  have r0 := row_of k0
  have r1 := row_of k1
  have f0 := frozen_of k0
  have z0 := blk_lt k0
  have z1 := blk_lt k1
  by_cases hc : H < L
  · have hd := decide_eq_true hc
    go_wp2_with fail
    refine (none_any _).mono ?_
    rintro e w3 ⟨rfl, hb3⟩
    replace k0 := blk_keep hb3 k0
    have hB3 := hB2.trans (hb3.mono hB2.size)
    clear hb3 hB2 r0 r1 z0 z1 k1 f0
    have r0 := row_of k0
    have f0 := frozen_of k0
    have z0 := blk_lt k0
    go_wp2_with fail
    generalize hWF : (World.setCell (World.setCell _ _ _) _ _) = WF
    obtain ⟨kF, _, bF, _⟩ := put2 k0 _ _ hWF.symm
    clear hWF
    have rF := row_of kF
    exact bodyPost_ret (v := .agg #[.int .i64 (nrm L H).1, .int .i64 (nrm L H).2]) (by simp [results, Try.results68, go_sem, rF, nrm, hc]) rfl ⟨rfl, hB3.trans (bF _ (Nat.le_refl _))⟩
  · have hd := decide_eq_false hc
    have hn : nrm L H = (L, H) := if_neg hc
    go_wp2_with fail
    generalize hWF : (World.setCell (World.setCell _ _ _) _ _) = WF
    obtain ⟨kF, _, bF, _⟩ := put2 k0 _ _ hWF.symm
    clear hWF
    have rF := row_of kF
    exact bodyPost_ret (v := .agg #[.int .i64 L, .int .i64 H]) (by simp [results, Try.results68, go_sem, rF]) rfl ⟨by rw [hn], hB2.trans (bF _ (Nat.le_refl _))⟩

theorem of_any (l h : Int) (w : World) :
    Calls Try.prog 68 #[.int .i64 l, .int .i64 h] w fun e w' => e = .returned (.agg #[.int .i64 (ofP l h).1, .int .i64 (ofP l h).2]) ∧ Below w.heap.size w w' := of_gen l h _ _ rfl rfl w
theorem const_any (n : Int) (w : World) :
    Calls Try.prog 34 #[.int .i64 n] w fun e w' => e = .returned (.agg #[.int .i64 (ofP n n).1, .int .i64 (ofP n n).2]) ∧ Below w.heap.size w w' := by
  go_enter Try.func34, Try.ntmps34
  go_upto_region 1 with fail
  refine wp_world (fun W => W.heap[w.heap.size]? = some (.cells #[.int .i64 0, .int .i64 0] 48 (0, 0)) ∧ Below w.heap.size w W) ⟨blkA _ _ rfl, (Below.refl _ _).alloc (Nat.le_refl _) _⟩ ?_
  rintro w1 ⟨k0, hB1⟩
  go_wp2_with fail
  refine (of_any _ _ _).mono ?_
  rintro e w2 ⟨rfl, hb2⟩
  replace k0 := blk_keep hb2 k0
  have hB2 := hB1.trans (hb2.mono hB1.size)
  have r0 := row_of k0
  have f0 := frozen_of k0
  have z0 := blk_lt k0
  go_wp2_with fail
  generalize hWF : (World.setCell (World.setCell _ _ _) _ _) = WF
  obtain ⟨kF, _, bF, _⟩ := put2 k0 _ _ hWF.symm
  clear hWF
  have rF := row_of kF
  exact bodyPost_ret (v := .agg #[.int .i64 (ofP n n).1, .int .i64 (ofP n n).2]) (by simp [results, Try.results34, go_sem, rF]) rfl ⟨rfl, hB2.trans (bF _ (Nat.le_refl _))⟩
end Go.Proofs.Ytbcbcambkjhhhaa
