/-
  FlowMany's loop: one statement more.
-/
import Derived.Test.YtnejbjeomcenoaaFu
import Derived.Test.YtnejbjeomcenoaaFv
import Derived.Test.YtnejbjeomcenoaaFr
namespace Go.Proofs.Ytnejbjeomcenoaa
open Go.RowKit

/-- The system that the law makes: a process with so many Inputs. -/
def ManyAt (w : World) (q : Nat) (wr : World) : Prop :=
  ∃ B cB, wr.heap[w.heap.size]? = some (.cells #[.int .i64 1, .slice B q cB] 28 (0, 0)) ∧ wr.heap[w.heap.size + 1]? = some (.cells #[.slice none 0 0, .slice (some ⟨w.heap.size, 0, none⟩) 1 1] 32 (0, 0)) ∧
    wr.ownsRow (w.heap.size + 2) 40 20 (.slice B q cB) q (rowsN [.int .i64 7, .int .i64 0, .int .i64 0, .int .i64 0, .int .i64 0, .int .i64 0, .int .i64 0, .slice none 0 0, .int .i64 0, .int .i64 0, .int .i64 0, .int .i64 0, .slice none 0 0, .int .i64 0, .int .i64 0, .int .i64 0, .slice none 0 0, .slice none 0 0, .slice none 0 0, .slice none 0 0] q) ∧ Below w.heap.size w wr

theorem ManyAt.up1 {w wr : World} {q : Nat} (h : ManyAt w q wr) (o : Obj) : ManyAt w q (wr.alloc o) := by
  obtain ⟨B, cB, hb, hp, hown, hB⟩ := h
  exact ⟨B, cB, blkUp hb _, blkUp hp _, hown.alloc _, hB.alloc hB.size _⟩
theorem ManyAt.up2 {w wr : World} {q : Nat} (h : ManyAt w q wr) : ManyAt w q wr.drew := by
  obtain ⟨B, cB, hb, hp, hown, hB⟩ := h
  exact ⟨B, cB, hb, hp, hown.drew, hB.drew⟩

def ManyN (w : World) (q gg cap : Nat) (xs : List Value) (W : World) : Prop :=
  W.heap[w.heap.size]? = some (.cells #[.int .i64 1, .slice (some ⟨gg, 0, none⟩) (q + 1) cap] 28 (0, 0)) ∧ W.heap[w.heap.size + 1]? = some (.cells #[.slice none 0 0, .slice (some ⟨w.heap.size, 0, none⟩) 1 1] 32 (0, 0)) ∧
  W.ownsRow (w.heap.size + 2) 40 20 (.slice (some ⟨gg, 0, none⟩) (q + 1) cap) (q + 1) xs ∧ Below w.heap.size w W
theorem many_next {w W w3 : World} {q cB gg cap : Nat} {B : Option Addr} (hgrow : W.grownBy w3 (Value.slice B q cB).ownBlock) (hb : W.heap[w.heap.size]? = some (.cells #[.int .i64 1, .slice B q cB] 28 (0, 0)))
    (hp : W.heap[w.heap.size + 1]? = some (.cells #[.slice none 0 0, .slice (some ⟨w.heap.size, 0, none⟩) 1 1] 32 (0, 0))) (hown : W.ownsRow (w.heap.size + 2) 40 20 (.slice B q cB) q (rowsN [.int .i64 7, .int .i64 0, .int .i64 0, .int .i64 0, .int .i64 0, .int .i64 0, .int .i64 0, .slice none 0 0, .int .i64 0, .int .i64 0, .int .i64 0, .int .i64 0, .slice none 0 0, .int .i64 0, .int .i64 0, .int .i64 0, .slice none 0 0, .slice none 0 0, .slice none 0 0, .slice none 0 0] q)) (hB : Below w.heap.size w W)
    (xs : List Value) (h3 : w3.ownsRow (w.heap.size + 2) 40 20 (.slice (some ⟨gg, 0, none⟩) (q + 1) cap) (q + 1) xs) :
    ManyN w q gg cap xs (w3.setCell ⟨w.heap.size, 1, none⟩ (.slice (some ⟨gg, 0, none⟩) (q + 1) cap)) := by
  have k0 := grown_blk hgrow hb (fun e => by have := (hown.lt _ e).1; omega)
  have k1 := grown_blk hgrow hp (fun e => by have := (hown.lt _ e).1; omega)
  exact ⟨by simp [World.setCell, Array.getElem?_modify, k0], blk_set k1 (by omega), own_set h3 (by omega), (below_grown hgrow hB (Nat.le_refl _) (fun b hb => by have := (hown.lt b hb).1; omega)).setCell (Nat.le_refl _) _⟩
theorem setCells_other {g : Nat} : ∀ (vs : List Value) (o : Nat) (w : World) {b : Nat} {x : Obj}, w.heap[b]? = some x → b ≠ g → (w.setCells g o vs).heap[b]? = some x
  | [], _, _, _, _, h, _ => h
  | v :: r, o, w, _, _, h, hne => setCells_other r (o + 1) (w.setCell ⟨g, o, none⟩ v) (blk_set h hne) hne
theorem setCells_below {B g : Nat} (hg : B ≤ g) : ∀ (vs : List Value) (o : Nat) {a w : World}, Below B a w → Below B a (w.setCells g o vs)
  | [], _, _, _, h => h
  | v :: r, o, _, _, h => setCells_below hg r (o + 1) (h.setCell hg v)

theorem many_there {w w4 : World} {q gg cap : Nat} (h : ManyN w q gg cap (rowsN ([.int .i64 7, .int .i64 0, .int .i64 0, .int .i64 0, .int .i64 0, .int .i64 0, .int .i64 0, .slice none 0 0, .int .i64 0, .int .i64 0, .int .i64 0, .int .i64 0, .slice none 0 0, .int .i64 0, .int .i64 0, .int .i64 0, .slice none 0 0, .slice none 0 0, .slice none 0 0, .slice none 0 0] : List Value) q ++ ([.int .i64 0, .int .i64 0, .int .i64 0, .int .i64 0, .int .i64 0, .int .i64 0, .int .i64 0, .slice none 0 0, .int .i64 0, .int .i64 0, .int .i64 0, .int .i64 0, .slice none 0 0, .int .i64 0, .int .i64 0, .int .i64 0, .slice none 0 0, .slice none 0 0, .slice none 0 0, .slice none 0 0] : List Value)) w4) : w4.there gg (q * 20) (#[.int .i64 7, .int .i64 0, .int .i64 0, .int .i64 0, .int .i64 0, .int .i64 0, .int .i64 0, .slice none 0 0, .int .i64 0, .int .i64 0, .int .i64 0, .int .i64 0, .slice none 0 0, .int .i64 0, .int .i64 0, .int .i64 0, .slice none 0 0, .slice none 0 0, .slice none 0 0, .slice none 0 0] : Array Value).size := fun j hj => by
  obtain ⟨_, _, n2, _⟩ := h
  have hj' : j < 20 := hj
  obtain ⟨cur, hcur⟩ : ∃ cur, w4.heap[gg]? = some (.cells cur 40 (0, 0)) := by
    rcases n2.2 with ⟨h1, _⟩ | ⟨g', cap', cur, h1, _, hg, _⟩
    · cases h1
    · cases h1; exact ⟨cur, hg⟩
  refine ⟨?_, frozen_of hcur _⟩
  have hlen : (rowsN ([.int .i64 7, .int .i64 0, .int .i64 0, .int .i64 0, .int .i64 0, .int .i64 0, .int .i64 0, .slice none 0 0, .int .i64 0, .int .i64 0, .int .i64 0, .int .i64 0, .slice none 0 0, .int .i64 0, .int .i64 0, .int .i64 0, .slice none 0 0, .slice none 0 0, .slice none 0 0, .slice none 0 0] : List Value) q ++ ([.int .i64 0, .int .i64 0, .int .i64 0, .int .i64 0, .int .i64 0, .int .i64 0, .int .i64 0, .slice none 0 0, .int .i64 0, .int .i64 0, .int .i64 0, .int .i64 0, .slice none 0 0, .int .i64 0, .int .i64 0, .int .i64 0, .slice none 0 0, .slice none 0 0, .slice none 0 0, .slice none 0 0] : List Value)).length = (q + 1) * 20 := n2.1
  have := n2.cells rfl (q * 20 + j) _ (List.getElem?_eq_getElem (by rw [hlen]; omega))
  rw [Addr.add_mid, Nat.zero_add] at this
  rw [this]
  rfl
theorem many_put {w w4 : World} {q gg cap : Nat} (h : ManyN w q gg cap (rowsN ([.int .i64 7, .int .i64 0, .int .i64 0, .int .i64 0, .int .i64 0, .int .i64 0, .int .i64 0, .slice none 0 0, .int .i64 0, .int .i64 0, .int .i64 0, .int .i64 0, .slice none 0 0, .int .i64 0, .int .i64 0, .int .i64 0, .slice none 0 0, .slice none 0 0, .slice none 0 0, .slice none 0 0] : List Value) q ++ ([.int .i64 0, .int .i64 0, .int .i64 0, .int .i64 0, .int .i64 0, .int .i64 0, .int .i64 0, .slice none 0 0, .int .i64 0, .int .i64 0, .int .i64 0, .int .i64 0, .slice none 0 0, .int .i64 0, .int .i64 0, .int .i64 0, .slice none 0 0, .slice none 0 0, .slice none 0 0, .slice none 0 0] : List Value)) w4) : ManyAt w (q + 1) (w4.setCells gg (q * 20) [.int .i64 7, .int .i64 0, .int .i64 0, .int .i64 0, .int .i64 0, .int .i64 0, .int .i64 0, .slice none 0 0, .int .i64 0, .int .i64 0, .int .i64 0, .int .i64 0, .slice none 0 0, .int .i64 0, .int .i64 0, .int .i64 0, .slice none 0 0, .slice none 0 0, .slice none 0 0, .slice none 0 0]) := by
  obtain ⟨n0, n1, n2, n3⟩ := h
  have hgl := (n2.lt gg rfl).1
  have ho := own_setCells [.int .i64 7, .int .i64 0, .int .i64 0, .int .i64 0, .int .i64 0, .int .i64 0, .int .i64 0, .slice none 0 0, .int .i64 0, .int .i64 0, .int .i64 0, .int .i64 0, .slice none 0 0, .int .i64 0, .int .i64 0, .int .i64 0, .slice none 0 0, .slice none 0 0, .slice none 0 0, .slice none 0 0] (q * 20) w4 _ n2
  have e : setAll (rowsN ([.int .i64 7, .int .i64 0, .int .i64 0, .int .i64 0, .int .i64 0, .int .i64 0, .int .i64 0, .slice none 0 0, .int .i64 0, .int .i64 0, .int .i64 0, .int .i64 0, .slice none 0 0, .int .i64 0, .int .i64 0, .int .i64 0, .slice none 0 0, .slice none 0 0, .slice none 0 0, .slice none 0 0] : List Value) q ++ ([.int .i64 0, .int .i64 0, .int .i64 0, .int .i64 0, .int .i64 0, .int .i64 0, .int .i64 0, .slice none 0 0, .int .i64 0, .int .i64 0, .int .i64 0, .int .i64 0, .slice none 0 0, .int .i64 0, .int .i64 0, .int .i64 0, .slice none 0 0, .slice none 0 0, .slice none 0 0, .slice none 0 0] : List Value)) (q * 20) [.int .i64 7, .int .i64 0, .int .i64 0, .int .i64 0, .int .i64 0, .int .i64 0, .int .i64 0, .slice none 0 0, .int .i64 0, .int .i64 0, .int .i64 0, .int .i64 0, .slice none 0 0, .int .i64 0, .int .i64 0, .int .i64 0, .slice none 0 0, .slice none 0 0, .slice none 0 0, .slice none 0 0] = rowsN ([.int .i64 7, .int .i64 0, .int .i64 0, .int .i64 0, .int .i64 0, .int .i64 0, .int .i64 0, .slice none 0 0, .int .i64 0, .int .i64 0, .int .i64 0, .int .i64 0, .slice none 0 0, .int .i64 0, .int .i64 0, .int .i64 0, .slice none 0 0, .slice none 0 0, .slice none 0 0, .slice none 0 0] : List Value) q ++ ([.int .i64 7, .int .i64 0, .int .i64 0, .int .i64 0, .int .i64 0, .int .i64 0, .int .i64 0, .slice none 0 0, .int .i64 0, .int .i64 0, .int .i64 0, .int .i64 0, .slice none 0 0, .int .i64 0, .int .i64 0, .int .i64 0, .slice none 0 0, .slice none 0 0, .slice none 0 0, .slice none 0 0] : List Value) := by
    have := setAll_end [.int .i64 7, .int .i64 0, .int .i64 0, .int .i64 0, .int .i64 0, .int .i64 0, .int .i64 0, .slice none 0 0, .int .i64 0, .int .i64 0, .int .i64 0, .int .i64 0, .slice none 0 0, .int .i64 0, .int .i64 0, .int .i64 0, .slice none 0 0, .slice none 0 0, .slice none 0 0, .slice none 0 0] [.int .i64 0, .int .i64 0, .int .i64 0, .int .i64 0, .int .i64 0, .int .i64 0, .int .i64 0, .slice none 0 0, .int .i64 0, .int .i64 0, .int .i64 0, .int .i64 0, .slice none 0 0, .int .i64 0, .int .i64 0, .int .i64 0, .slice none 0 0, .slice none 0 0, .slice none 0 0, .slice none 0 0] (rowsN [.int .i64 7, .int .i64 0, .int .i64 0, .int .i64 0, .int .i64 0, .int .i64 0, .int .i64 0, .slice none 0 0, .int .i64 0, .int .i64 0, .int .i64 0, .int .i64 0, .slice none 0 0, .int .i64 0, .int .i64 0, .int .i64 0, .slice none 0 0, .slice none 0 0, .slice none 0 0, .slice none 0 0] q) rfl
    rw [rowsN_len] at this
    exact this
  rw [e, ← rowsN_snoc] at ho
  exact ⟨some ⟨gg, 0, none⟩, cap, setCells_other _ _ _ n0 (by omega), setCells_other _ _ _ n1 (by omega), ho, setCells_below (by omega) _ _ n3⟩

set_option maxRecDepth 100000 in
set_option maxHeartbeats 8000000 in
theorem many_probe (n : Int) (w : World) (K : Nat) (hK1 : 395 ≤ K) (hK2 : K ≤ 404) (u : Int) (hu0 : 0 ≤ u) (hu : IntKind.u64.wrap n = u) (hK : 395 + u % 10 = (K : Int)) :
    Calls Try.prog 4 #[.int .i64 n] w fun e w' => e = .returned (.bool true) ∧ Below w.heap.size w w' := by
  obtain ⟨ii, hii, iz0, iz1, iz2⟩ := info_parts info_st3
  replace hii := Lib.hid hii
  go_enter Try.func4, Try.ntmps4
  go_upto_region 3 with fail
  clear hu hK
  refine wp_world (fun W => ManyAt w 0 W) ⟨none, 0, blkUp (blkA _ _ rfl) _, blkA _ _ (by simp), World.ownsRow_nil _ _ _ _, ((Below.refl _ _).alloc (Nat.le_refl _) _).alloc (by simp) _⟩ ?_
  intro w0 hM0
  replace hM0 := Lib.hid hM0
  go_wp2_with fail
  go_loopw [5] (fun i wr => ∃ q : Nat, q ≤ K ∧ i = .int .i64 q ∧ Hid (ManyAt w q wr)) (fun i _ => K - (intOf i).toNat)
  case atStart => exact ⟨0, by omega, rfl, hM0⟩
  case round =>
    obtain ⟨q, hq, rfl, hM⟩ := hrel
    by_cases hlt : q < K
    · go_upto_region 6 with fail
      go_region
      all_goals (first | go_upto_region 7 with fail | go_upto_region 9 with fail)
      all_goals
        refine wp_world (fun W => ManyAt w q W) (by first | exact (hM.out.up1 _).up2 | exact (hM.out.up2).up1 _) ?_
        intro w1 hM1
        obtain ⟨B, cB, hb, hp, hown, hB⟩ := hM1
        have rb := row_of hb
        have rp := row_of hp
        have fb := frozen_of hb 1
        have hl0 := blk_lt hb
        have hl1 := blk_lt hp
        replace hb := Lib.hid hb
        replace hp := Lib.hid hp
        replace hown := Lib.hid hown
      · go_region_law (first
          | (refine step_append_lies _ (by rfl) _ _ _ (by rfl) (w.heap.size + 2) 40 ii _ 20 256 Try.underlying26 hii.out iz0 iz1 iz2 rfl (by omega) (.slice B q cB) q (rowsN [.int .i64 7, .int .i64 0, .int .i64 0, .int .i64 0, .int .i64 0, .int .i64 0, .int .i64 0, .slice none 0 0, .int .i64 0, .int .i64 0, .int .i64 0, .int .i64 0, .slice none 0 0, .int .i64 0, .int .i64 0, .int .i64 0, .slice none 0 0, .slice none 0 0, .slice none 0 0, .slice none 0 0] q) (by rfl) (hown.out.alloc _) ⟨w1.heap.size, 0, none⟩ 1 1 [.int .i64 7, .int .i64 0, .int .i64 0, .int .i64 0, .int .i64 0, .int .i64 0, .int .i64 0, .slice none 0 0, .int .i64 0, .int .i64 0, .int .i64 0, .int .i64 0, .slice none 0 0, .int .i64 0, .int .i64 0, .int .i64 0, .slice none 0 0, .slice none 0 0, .slice none 0 0, .slice none 0 0] (by rfl) (by rfl) (World.news_of_block (cs := #[.int .i64 7, .int .i64 0, .int .i64 0, .int .i64 0, .int .i64 0, .int .i64 0, .int .i64 0, .slice none 0 0, .int .i64 0, .int .i64 0, .int .i64 0, .int .i64 0, .slice none 0 0, .int .i64 0, .int .i64 0, .int .i64 0, .slice none 0 0, .slice none 0 0, .slice none 0 0, .slice none 0 0]) (t := 40) (fr := (0, 0)) (blkA _ _ rfl)) (by simp [Value.oneCell']) (by omega) (by unfold maxLen; omega) (by omega) (by simp; omega) (w1.heap.size + 1) (by simp) ?_; intro gg cap w3 hown3 hgrow hat hlt3; have hN := Lib.hid (many_next hgrow (blkUp hb.out _) (blkUp hp.out _) (hown.out.alloc _) (by first | exact (hB.alloc hB.size _).drew | exact hB.drew.alloc hB.size _) _ hown3); have k3 := grown_blk hgrow (blkUp hb.out _) (fun e => by have := (hown.out.lt _ e).1; omega); have kp3 := grown_blk hgrow (blkUp hp.out _) (fun e => by have := (hown.out.lt _ e).1; omega); have rb3 := row_of k3; have rp3 := row_of kp3; have fb3 := frozen_of k3 1; replace k3 := Lib.hid k3; replace kp3 := Lib.hid kp3; clear hown3 hgrow hat))
        all_goals
          go_wp2_with fail
          go_roundw
          case rel =>
            obtain ⟨n0, n1, n2, n3⟩ := hN.out
            exact ⟨q + 1, by omega, by go_num, Lib.hid ⟨some ⟨gg, 0, none⟩, cap, n0, n1, by rw [rowsN_snoc]; exact n2, n3⟩⟩
          case measure => simp [intOf]; omega
      · go_upto_region 8 with (refine wpList_append_lies _ rfl _ _ _ rfl (w.heap.size + 2) 40 ii _ 20 256 Try.underlying26 hii.out iz0 iz1 iz2 rfl (by omega) (.slice B q cB) q (rowsN [.int .i64 7, .int .i64 0, .int .i64 0, .int .i64 0, .int .i64 0, .int .i64 0, .int .i64 0, .slice none 0 0, .int .i64 0, .int .i64 0, .int .i64 0, .int .i64 0, .slice none 0 0, .int .i64 0, .int .i64 0, .int .i64 0, .slice none 0 0, .slice none 0 0, .slice none 0 0, .slice none 0 0] q) rfl (hown.out.alloc _) ⟨w1.heap.size, 0, none⟩ 1 1 [.int .i64 0, .int .i64 0, .int .i64 0, .int .i64 0, .int .i64 0, .int .i64 0, .int .i64 0, .slice none 0 0, .int .i64 0, .int .i64 0, .int .i64 0, .int .i64 0, .slice none 0 0, .int .i64 0, .int .i64 0, .int .i64 0, .slice none 0 0, .slice none 0 0, .slice none 0 0, .slice none 0 0] rfl rfl (World.news_of_block (cs := #[.int .i64 0, .int .i64 0, .int .i64 0, .int .i64 0, .int .i64 0, .int .i64 0, .int .i64 0, .slice none 0 0, .int .i64 0, .int .i64 0, .int .i64 0, .int .i64 0, .slice none 0 0, .int .i64 0, .int .i64 0, .int .i64 0, .slice none 0 0, .slice none 0 0, .slice none 0 0, .slice none 0 0]) (t := 40) (fr := (0, 0)) (blkA _ _ rfl)) (by simp [Value.oneCell']) (by omega) (by unfold maxLen; omega) (by omega) (by simp; omega) (w1.heap.size + 1) (by simp) ?_)
        intro gg cap w3 hown3 hgrow hat hlt3
        have hN := Lib.hid (many_next hgrow (blkUp hb.out _) (blkUp hp.out _) (hown.out.alloc _) (hB.alloc hB.size _) _ hown3)
        have k3 := grown_blk hgrow (blkUp hb.out _) (fun e => by have := (hown.out.lt _ e).1; omega)
        have kp3 := grown_blk hgrow (blkUp hp.out _) (fun e => by have := (hown.out.lt _ e).1; omega)
        have rb3 := row_of k3
        have rp3 := row_of kp3
        have fb3 := frozen_of k3 1
        replace k3 := Lib.hid k3
        replace kp3 := Lib.hid kp3
        clear hown3 hgrow hat
        go_upto_region 8 with fail
        refine wp_world (fun W => ManyN w q gg cap (rowsN [.int .i64 7, .int .i64 0, .int .i64 0, .int .i64 0, .int .i64 0, .int .i64 0, .int .i64 0, .slice none 0 0, .int .i64 0, .int .i64 0, .int .i64 0, .int .i64 0, .slice none 0 0, .int .i64 0, .int .i64 0, .int .i64 0, .slice none 0 0, .slice none 0 0, .slice none 0 0, .slice none 0 0] q ++ [.int .i64 0, .int .i64 0, .int .i64 0, .int .i64 0, .int .i64 0, .int .i64 0, .int .i64 0, .slice none 0 0, .int .i64 0, .int .i64 0, .int .i64 0, .int .i64 0, .slice none 0 0, .int .i64 0, .int .i64 0, .int .i64 0, .slice none 0 0, .slice none 0 0, .slice none 0 0, .slice none 0 0]) W) hN.out ?_
        intro w4 hN4
        have hth := Lib.hid (many_there hN4)
        have hM' := Lib.hid (many_put hN4)
        clear hN4 rb3 rp3 fb3 k3 kp3 hN
        go_wp2_with (refine wpList_store_mid rfl 40 _ _ rfl gg (q * 20) #[.int .i64 7, .int .i64 0, .int .i64 0, .int .i64 0, .int .i64 0, .int .i64 0, .int .i64 0, .slice none 0 0, .int .i64 0, .int .i64 0, .int .i64 0, .int .i64 0, .slice none 0 0, .int .i64 0, .int .i64 0, .int .i64 0, .slice none 0 0, .slice none 0 0, .slice none 0 0, .slice none 0 0] ?cx ?cy ?ct info_st (by kernel_rfl) ?_)
        case cx => go_simp
        case cy => go_simp
        case ct => exact hth.out
        go_roundw
        case rel => exact ⟨q + 1, by omega, by go_num, hM'⟩
        case measure => simp [intOf]; omega
    · obtain rfl : q = K := by omega
      obtain ⟨B, cB, hb, hp, hown, hB⟩ := hM.out
      obtain ⟨q', rfl⟩ : ∃ q', q = q' + 1 := ⟨q - 1, by omega⟩
      obtain ⟨bb, rfl⟩ := own_form' hown
      have hcB := own_cap hown
      have rp := row_of hp
      have rb : wr.rangeAt w.heap.size 0 [.int .i64 1, .slice (some ⟨bb, 0, none⟩) (q' + 1) cB] := fun j v hv => by rw [Nat.zero_add]; exact (row_of hb j).trans (by simpa using hv)
      have hbl := blk_lt hb
      have hel := elems_of_own rfl (List.all_eq_true.1 (show List.all ([.int .i64 7, .int .i64 0, .int .i64 0, .int .i64 0, .int .i64 0, .int .i64 0, .int .i64 0, .slice none 0 0, .int .i64 0, .int .i64 0, .int .i64 0, .int .i64 0, .slice none 0 0, .int .i64 0, .int .i64 0, .int .i64 0, .slice none 0 0, .slice none 0 0, .slice none 0 0, .slice none 0 0] : List Value) (·.oneCell') = true by kernel_rfl)) hown
      clear hb hp hown hM hM0
      replace rb := Lib.hid rb
      replace hel := Lib.hid hel
      by_cases h4 : q' + 1 ≤ 400
      · obtain ⟨e1, e2, e3⟩ := inp_few 1 q' 0 0 ls0 (by show 0 + q' + 1 ≤ 401; omega)
        generalize hS : bodyF inpF 1 (q' + 1) 0 0 ls0 = S at e1 e2 e3
        replace hS := Lib.hid hS
        obtain ⟨N, ne, es, nh, hs⟩ := S
        simp only [ls0] at e1 e2 e3
        have hne : ne = q' + 1 := by omega
        have hN : N = (q' : Int) + 1 + 1 := by omega
        subst hne hN e3
        clear e1 e2
        have h4' : decide (400 < ((q' : Int) + 1)) = false := by simp; omega
        have H4 : (q' : Int) + 1 ≤ 400 := by omega
        go_wp2_with fail
        refine (build_one 1 w.heap.size 1 (some ⟨bb, 0, none⟩) (q' + 1) cB (fun _ => [.int .i64 7, .int .i64 0, .int .i64 0, .int .i64 0, .int .i64 0, .int .i64 0, .int .i64 0, .slice none 0 0, .int .i64 0, .int .i64 0, .int .i64 0, .int .i64 0, .slice none 0 0, .int .i64 0, .int .i64 0, .int .i64 0, .slice none 0 0, .slice none 0 0, .slice none 0 0, .slice none 0 0]) wr (by decide) (by decide) (by omega) (by omega) hcB (by decide) hbl rb.out hel.out
          (fun i hi W hW => stmt_inp none 0 0 0 1 0 (by decide) (by decide) W) inpF (fun i hi W base _ _ => inp_lays W base i) inp_N _ hS.out (by show q' + 1 ≤ 400; exact h4) (by show 0 ≤ 1; decide)).mono ?_
        rintro e w1 ⟨E, H, ce, ch, G, cg, V, cv, rfl, hE, hH, hG, hV, hb1⟩
        have hGl := (hG.lt G rfl).2
        have g0 : w1.cell? ⟨G, 0, none⟩ = some (.int .i64 ((q' : Int) + 1 + 1)) := hG.cells rfl 0 _ rfl
        have g1 : w1.cell? ⟨G, 1, none⟩ = some (.slice E (q' + 1) ce) := hG.cells rfl 1 _ rfl
        have hcg := own_cap hG
        have hB1 : Below w.heap.size w w1 := hB.trans (hb1.mono hB.size)
        clear hE hH hG hV hb1 rp hB
        go_wp2_with fail
        have hba : Below w1.heap.size w1 (w1.alloc (.cells #[.slice none 0 0, .slice (some ⟨G, 0, none⟩) 1 cg, .slice (some ⟨V, 0, none⟩) 1 cv] 44)) := (Below.refl _ _).alloc (Nat.le_refl _) _
        have ks := Lib.hid (blkA w1 (.cells #[.slice none 0 0, .slice (some ⟨G, 0, none⟩) 1 cg, .slice (some ⟨V, 0, none⟩) 1 cv] 44) rfl)
        refine (builds_any _).mono ?_
        rintro e w2 ⟨rfl, hb2⟩
        have rs := row_of (blk_keep hb2 ks.out)
        have g0' := (hba.trans (hb2.mono hba.size)).cell (p := ⟨G, 0, none⟩) hGl |>.trans g0
        have g1' := (hba.trans (hb2.mono hba.size)).cell (p := ⟨G, 1, none⟩) hGl |>.trans g1
        have hB2 : Below w.heap.size w w2 := (hB1.trans (hba.mono hB1.size)).trans (hb2.mono (Nat.le_trans hB1.size hba.size))
        clear g0 g1 hba hb2 ks hB1
        go_wp2_with fail
        go_ret
        exact ⟨by simp, hB2⟩
      · have hS0 := inp_many 1 (q' + 1) 0 0 ls0 (by decide) (by show 401 ≤ 0 + (q' + 1); omega)
        generalize hS : bodyF inpF 1 (q' + 1) 0 0 ls0 = S at hS0
        replace hS := Lib.hid hS
        have h4' : decide (400 < ((q' : Int) + 1)) = true := by simp; omega
        have H4 : 400 < (q' : Int) + 1 := by omega
        go_wp2_with fail
        refine (build_full 1 w.heap.size 1 (some ⟨bb, 0, none⟩) (q' + 1) cB (fun _ => [.int .i64 7, .int .i64 0, .int .i64 0, .int .i64 0, .int .i64 0, .int .i64 0, .int .i64 0, .slice none 0 0, .int .i64 0, .int .i64 0, .int .i64 0, .int .i64 0, .slice none 0 0, .int .i64 0, .int .i64 0, .int .i64 0, .slice none 0 0, .slice none 0 0, .slice none 0 0, .slice none 0 0]) wr (by decide) (by decide) (by omega) (by omega) hcB (by decide) hbl rb.out hel.out
          (fun i hi W hW => stmt_inp none 0 0 0 1 0 (by decide) (by decide) W) inpF (fun i hi W base _ _ => inp_lays W base i) inp_N _ hS.out (by omega)).mono ?_
        rintro e w1 ⟨rfl, hb1⟩
        have hB1 : Below w.heap.size w w1 := hB.trans (hb1.mono hB.size)
        clear hb1 rp hB
        go_wp2_with fail
        have hba : Below w1.heap.size w1 (w1.alloc (.cells #[.slice none 0 0, .slice none 0 0, .slice none 0 0] 44)) := (Below.refl _ _).alloc (Nat.le_refl _) _
        have ks := Lib.hid (blkA w1 (.cells #[.slice none 0 0, .slice none 0 0, .slice none 0 0] 44) rfl)
        refine (builds_any _).mono ?_
        rintro e w2 ⟨rfl, hb2⟩
        have rs := row_of (blk_keep hb2 ks.out)
        have hB2 : Below w.heap.size w w2 := (hB1.trans (hba.mono hB1.size)).trans (hb2.mono (Nat.le_trans hB1.size hba.size))
        clear hba hb2 ks hB1
        go_wp2_with fail
        go_ret
        exact ⟨by simp, hB2⟩
end Go.Proofs.Ytnejbjeomcenoaa

