/-
  queue's copies: rows of Itvs of one's own.
-/
import Derived.Test.YtbcbcambkjhhhaaQa
import Derived.Test.YtbcbcambkjhhhaaIp
import Derived.Deep.AppendLies
import Derived.Laws.OwnMore
import Derived.Maps.AppendAt
import Derived.Deep.RegionLaw
import Derived.RegionTactic
import Derived.Outline
namespace Go.Proofs.Ytbcbcambkjhhhaa
open Go.RowKit
theorem info_itv : (Try.prog.info? 48).map (fun i => (i.zero, i.size, i.bytes)) = some (some (.agg #[.int .i64 0, .int .i64 0]), 2, 16) := by kernel_rfl
theorem own_keep {w w' : World} {b : Nat} {e : TypeId} {size n : Nat} {v : Value} {xs : List Value} (h : w.ownsRow b e size v n xs) (hb : Below w.heap.size w w') : w'.ownsRow b e size v n xs := by
  refine ⟨h.1, ?_⟩
  rcases h.2 with h0 | ⟨g, cap, cur, rfl, hg, h1, h2⟩
  · exact .inl h0
  · exact .inr ⟨g, cap, cur, rfl, hg, blk_keep hb h1, h2⟩
theorem below_grown {B : Nat} {w W w1 : World} {own : Option Nat} (hgrow : W.grownBy w1 own) (hb : Below w.heap.size w W) (hB : B ≤ w.heap.size) (ho : ∀ b, own = some b → B ≤ b) : Below B w w1 := (hb.mono hB).grown hgrow (Nat.le_trans hB hb.size) ho
theorem grown_blk {W w1 : World} {own : Option Nat} {b : Nat} {x : Obj} (h : W.grownBy w1 own) (hb : W.heap[b]? = some x) (hne : own ≠ some b) : w1.heap[b]? = some x := (h.block b (blk_lt hb) (fun e => hne e.symm)).trans hb
theorem own_same {w w' : World} {b g n c : Nat} {e : TypeId} {size : Nat} {xs : List Value} (h : w.ownsRow b e size (.slice (some ⟨g, 0, none⟩) n c) n xs) (hk : ∀ x, w.heap[g]? = some x → w'.heap[g]? = some x) : w'.ownsRow b e size (.slice (some ⟨g, 0, none⟩) n c) n xs := by
  refine ⟨h.1, ?_⟩
  rcases h.2 with ⟨h0, _⟩ | ⟨g2, cap, cur, hv, hg, h1, h2⟩
  · cases h0
  · injection hv with e1 e2 e3
    injection e1 with e1
    injection e1 with e1
    subst e1
    exact .inr ⟨g, cap, cur, by rw [e3], hg, hk _ h1, h2⟩
/-- Three cells are stored into a block. -/
theorem put3 {W WF : World} {n : Nat} {t : TypeId} {d0 d1 d2 : Value} (h : W.heap[n]? = some (.cells #[d0, d1, d2] t (0, 0))) (v0 v1 v2 : Value) (hW : WF = ((W.setCell ⟨n, 0, none⟩ v0).setCell ⟨n, 1, none⟩ v1).setCell ⟨n, 2, none⟩ v2) :
    WF.heap[n]? = some (.cells #[v0, v1, v2] t (0, 0)) ∧ (∀ (b : Nat) (x : Obj), b ≠ n → W.heap[b]? = some x → WF.heap[b]? = some x) ∧ (∀ B, B ≤ n → Below B W WF) ∧ WF.heap.size = W.heap.size := by
  subst hW
  refine ⟨by simp [World.setCell, Array.getElem?_modify, h], fun b x hb hx => blk_set (blk_set (blk_set hx hb) hb) hb, fun B hB => ?_, by simp [World.setCell]⟩
  exact (((Below.refl _ W).setCell (p := ⟨n, 0, none⟩) hB v0).setCell (p := ⟨n, 1, none⟩) hB v1).setCell (p := ⟨n, 2, none⟩) hB v2
/-- The cells of a row of Itvs. -/
def cellsOf (xs : List (Int × Int)) : List Value := xs.flatMap fun p => [.int .i64 p.1, .int .i64 p.2]
theorem cellsOf_len (xs : List (Int × Int)) : (cellsOf xs).length = xs.length * 2 := by
  induction xs with
  | nil => rfl
  | cons x l ih => simp only [cellsOf, List.flatMap_cons, List.length_append, List.length_cons, List.length_nil] at ih ⊢; omega
theorem cellsOf_one (xs : List (Int × Int)) : ∀ u ∈ cellsOf xs, u.oneCell' = true := by
  intro u hu
  simp only [cellsOf, List.mem_flatMap] at hu
  obtain ⟨p, _, hp⟩ := hu
  simp at hp
  rcases hp with rfl | rfl <;> rfl
/-- An Elem of one's own: its numbers lie in a row that none other holds. -/
def ElemAt (W : World) (base : Nat) (t : TypeId) (g cap : Nat) (xs : List (Int × Int)) : Prop := W.ownsRow base t 2 (.slice (some ⟨g, 0, none⟩) xs.length cap) xs.length (cellsOf xs)
def Copied (w : World) (l h : Int) (xs : List (Int × Int)) (e : Ending) (w' : World) : Prop := ∃ g cap, e = .returned (.agg #[.int .i64 l, .int .i64 h, .slice (some ⟨g, 0, none⟩) xs.length cap]) ∧ ElemAt w' w.heap.size 48 g cap xs ∧ Below w.heap.size w w'
set_option maxRecDepth 100000 in
set_option maxHeartbeats 1000000 in
theorem copied_any (l h : Int) (b c base : Nat) (xs : List (Int × Int)) (w : World) (hn : 0 < xs.length) (hs : xs.length ≤ 1000) (hx : ElemAt w base 48 b c xs) :
    Calls Try.prog 80 #[.agg #[.int .i64 l, .int .i64 h, .slice (some ⟨b, 0, none⟩) xs.length c]] w (Copied w l h xs) := by
  obtain ⟨ii, hii, iz0, iz1, iz2⟩ := info_parts info_itv
  have hbw := (hx.lt b rfl).2
  have hc : ∀ (j : Nat) (u : Value), (cellsOf xs)[j]? = some u → w.cell? ((⟨b, 0, none⟩ : Addr).add j) = some u := fun j u hu => hx.cells rfl j u hu
  replace hii := Lib.hid hii
  replace hc := Lib.hid hc
  replace hx := Lib.hid hx
  have hln := Lib.hid (cellsOf_len xs)
  generalize hm : xs.length = n at *
  replace hm := Lib.hid hm
  go_enter Try.func80, Try.ntmps80
  go_upto_region 1 with fail
  refine wp_world (fun W => W.heap[w.heap.size]? = some (.cells #[.int .i64 l, .int .i64 h, .slice (some ⟨b, 0, none⟩) n c] 51 (0, 0)) ∧ W.heap[w.heap.size + 1]? = some (.cells #[.int .i64 0, .int .i64 0, .slice none 0 0] 51 (0, 0)) ∧ Below w.heap.size w W) ⟨blkUp (blkA _ _ rfl) _, blkA _ _ (by simp only [World.size_alloc]), ((Below.refl _ _).alloc (Nat.le_refl _) _).alloc (by simp only [World.size_alloc]; omega) _⟩ ?_
  rintro w1 ⟨k0, k1, hB⟩
  have r0 := row_of k0
  have f0 := frozen_of k0
  have z0 := blk_lt k0
  have z1 := blk_lt k1
  have hcD := Lib.hid (((own_keep (show w.ownsRow base 48 2 (.slice (some ⟨b, 0, none⟩) n c) n (cellsOf xs) from by have t := hx.out; unfold ElemAt at t; rw [hm.out] at t; exact t) hB).drew).cells rfl)
  go_region_law (first
    | (refine step_append_lies _ (by rfl) _ _ _ (by rfl) w.heap.size 48 ii _ 2 16 Try.underlying49 hii.out iz0 iz1 iz2 rfl (by decide) (.slice none 0 0) 0 [] (by rfl) (World.ownsRow_nil _ _ _ _) ⟨b, 0, none⟩ n c (cellsOf xs) (by rfl) hln.out hcD.out (cellsOf_one xs) hn (by unfold maxLen; omega) (by omega) hB.size w1.heap.size (by rfl) ?_; intro gg cap w2 hown hgrow hat hlt; have k1' := grown_blk hgrow (b := w.heap.size + 1) k1 (by simp [Value.ownBlock]); have hcz := row_of k1'; have hfz := frozen_of k1'; have hzz := blk_lt k1'; have k0' := grown_blk hgrow (b := w.heap.size) k0 (by simp [Value.ownBlock]); have hc0 := row_of k0'; have hB2 := Lib.hid (below_grown hgrow hB.drew (Nat.le_refl _) (fun b hb => by simp [Value.ownBlock] at hb)); have hgx : gg ≠ w.heap.size + 1 := (by rcases hat with h | h; (simp [Value.ownBlock] at h); omega); replace hown := Lib.hid hown; clear hgrow hat))
  all_goals
    go_wp2_with fail
    generalize hWF : (World.setCell (World.setCell (World.setCell _ _ _) _ _) _ _) = WF
    obtain ⟨kF, kO, bF, _⟩ := put3 k1' _ _ _ hWF.symm
    clear hWF hcz hfz hc0
    have rF := row_of kF
    have hf := hB2.out.trans (bF _ (by show w.heap.size ≤ w.heap.size + 1; omega))
    refine bodyPost_ret (v := .agg #[.int .i64 l, .int .i64 h, .slice (some ⟨gg, 0, none⟩) n cap]) (by simp [results, Try.results80, go_sem, rF]) rfl ⟨gg, cap, by rw [hm.out], ?_, hf⟩
    have ht := hown.out
    rw [List.nil_append, Nat.zero_add] at ht
    have ho := own_same ht (fun x hx => kO gg x hgx hx)
    unfold ElemAt
    rw [hm.out]
    exact ho
end Go.Proofs.Ytbcbcambkjhhhaa
