/-
  flow.lay: the graph of a process's statements, for whatever each lays.
-/
import Derived.Test.YtnejbjeomcenoaaFh
import Derived.Test.YtnejbjeomcenoaaFi
namespace Go.Proofs.Ytnejbjeomcenoaa
open Go.RowKit

def ls0 : Ls := ⟨2, 0, [], 0, []⟩
theorem StLay.up {w w1 : World} {base : Nat} {cs : List Value} {f : Int → Int → Ls → Ls} (h : StLay w base cs f) (hb : Below base w w1) : StLay w1 base cs f := fun W g s a b hW => h W g s a b (hb.trans hW)

/-- What lay tells: the graph, all of whose rows are new. -/
def LayOut (w : World) (S : Ls) (e : Ending) (w' : World) : Prop :=
  ∃ (E H : Option Addr) (ce ch : Nat), e = .returned (.tuple #[.agg #[.int .i64 S.N, .slice E S.ne ce, .slice H S.nh ch], .int .i64 0]) ∧
    w'.ownsRow w.heap.size 55 19 (.slice E S.ne ce) S.ne S.es ∧ w'.ownsRow w.heap.size 3 1 (.slice H S.nh ch) S.nh S.hs ∧ Below w.heap.size w w'
theorem own_base {w : World} {b b' : Nat} {e : TypeId} {size n : Nat} {v : Value} {xs : List Value} (h : w.ownsRow b' e size v n xs) (hb : b ≤ b') : w.ownsRow b e size v n xs := by
  refine ⟨h.1, ?_⟩
  rcases h.2 with h0 | ⟨g, cap, cur, rfl, hg, h1⟩
  · exact .inl h0
  · exact .inr ⟨g, cap, cur, rfl, Nat.le_trans hb hg, h1⟩
theorem own_set {w : World} {b : Nat} {e : TypeId} {size n : Nat} {v : Value} {xs : List Value} (h : w.ownsRow b e size v n xs) {g o : Nat} {x : Value} (hg : g < b) : (w.setCell ⟨g, o, none⟩ x).ownsRow b e size v n xs := by
  have hset : w.grownBy (w.setCell ⟨g, o, none⟩ x) (some g) := ⟨rfl, rfl, rfl, by simp, fun i hi hne => Below.heap_setCell _ _ _ _ (by rintro rfl; exact hne rfl)⟩
  refine h.kept hset ?_
  cases hh : v.ownBlock with
  | none => exact .inl rfl
  | some k => exact .inr (fun e => by have := (h.lt k hh).1; simp at e; omega)

set_option maxRecDepth 100000 in
set_option maxHeartbeats 4000000 in
theorem lay_ok (w : World) (D : Option Addr) (k cap : Nat) (L : Nat → List Value) (f : Nat → Int → Int → Ls → Ls) (hk : k ≤ 1000) (hk0 : 0 < k) (hkc : k ≤ cap)
    (hm : ElemsAt w w.heap.size D k 20 L) (hs : ∀ i, i < k → ∀ W base, Below w.heap.size w W → w.heap.size ≤ base → StLay W base (L i) (f i)) (hf : ∀ i a b s, s.N ≤ (f i a b s).N ∧ (f i a b s).N ≤ s.N + 1000)
    (S : Ls) (hS : bodyF f 1 k 0 0 ls0 = S) (hfew : S.ne ≤ 400) (hh : S.nh ≤ 1) :
    Calls Try.prog 15 #[.slice D k cap] w fun e w' => LayOut w S e w' := by
  replace hm := Lib.hid hm
  replace hs := Lib.hid hs
  replace hf := Lib.hid hf
  replace hS := Lib.hid hS
  have hfd : decide (400 < S.ne) = false := by simpa using hfew
  go_enter Try.func15, Try.ntmps15
  go_upto_region 2 with fail
  refine wp_world (fun W => W.heap[w.heap.size]? = some (.cells #[.int .i64 0, .slice none 0 0, .slice none 0 0] 50 (0, 0)) ∧ W.heap[w.heap.size + 1]? = some (.cells #[.int .i64 2, .slice none 0 0, .slice none 0 0] 71 (0, 0)) ∧ Below w.heap.size w W ∧ W.heap.size = w.heap.size + 2) ⟨blkUp (blkA _ _ rfl) _, blkA _ _ (by simp), ((Below.refl _ _).alloc (Nat.le_refl _) _).alloc (by simp) _, by simp⟩ ?_
  rintro w0 ⟨k0, k1, hB0, hs0⟩
  have hL0 : LayS w0 (w.heap.size + 1) (w.heap.size + 1) ls0 := ⟨none, none, 0, 0, k1, World.ownsRow_nil _ _ _ _, World.ownsRow_nil _ _ _ _, Nat.le_refl _, fun b hb => by simp [Value.ownBlock] at hb, fun b hb => by simp [Value.ownBlock] at hb⟩
  replace k0 := Lib.hid k0
  clear k1
  go_wp2_with fail
  refine (lay_body w0 (w.heap.size + 1) (w.heap.size + 1) ls0 D k cap L f 0 1 hk hk0 hkc (by decide) (by decide) (hm.out.below hB0 (Nat.le_succ _)) (fun i hi => hs.out i hi w0 _ hB0 (Nat.le_succ _)) hf.out hL0).mono ?_
  rintro e w1 ⟨rfl, hL, hb1⟩
  rw [hS.out] at hL
  have k1 := (hb1.block w.heap.size (Nat.lt_succ_self _)).trans k0.out
  have hB1 : Below w.heap.size w w1 := hB0.trans (hb1.mono (Nat.le_succ _))
  obtain ⟨E, H, ce, ch, hg, hE, hH, _, _, _⟩ := hL
  have rg := row_of hg
  have rk := row_of k1
  have f0 := frozen_of k1 0
  have f1 := frozen_of k1 1
  have f2 := frozen_of k1 2
  have kg := Lib.hid hg
  replace hE := Lib.hid hE
  replace hH := Lib.hid hH
  clear hg k1 hb1 hB0 hs0 hL0 k0
  go_wp2_with fail
  refine (full_any _ _ _ _ _ _ _ kg.out).mono ?_
  rintro e w2 ⟨rfl, rfl⟩
  go_wp2_with fail
  refine (sort_few H S.nh ch hh _).mono ?_
  rintro e w2 ⟨rfl, rfl⟩
  go_wp2_with fail
  have hbw : w.heap.size < w.heap.size + 1 := Nat.lt_succ_self _
  have hE3 := own_base (own_set (own_set (own_set hE.out (o := 0) (x := .int .i64 S.N) hbw) (o := 1) (x := .slice E S.ne ce) hbw) (o := 2) (x := .slice H S.nh ch) hbw) (Nat.le_succ _)
  have hH3 := own_base (own_set (own_set (own_set hH.out (o := 0) (x := .int .i64 S.N) hbw) (o := 1) (x := .slice E S.ne ce) hbw) (o := 2) (x := .slice H S.nh ch) hbw) (Nat.le_succ _)
  exact bodyPost_ret (v := .tuple #[.agg #[.int .i64 S.N, .slice E S.ne ce, .slice H S.nh ch], .int .i64 0]) (by simp [results, Try.results15, go_sem, rk]) rfl ⟨E, H, ce, ch, rfl, hE3, hH3, ((hB1.setCell (Nat.le_refl _) _).setCell (Nat.le_refl _) _).setCell (Nat.le_refl _) _⟩
end Go.Proofs.Ytnejbjeomcenoaa

