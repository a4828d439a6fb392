/-
  check's test of a list of statements, each of which is right; of a process; of a system without channels.
-/
import Derived.Test.YtmcomhjfpegieaaFb
import Derived.Deep.MidRow
namespace Go.Proofs.Ytmcomhjfpegieaa
open Go.RowKit

theorem ld_mid {P : Program} {ops : Array Oper} {rest : List Oper} {o : Oper} {a : Act} {w : World} {Q : Exit → Act → World → Prop} (ty : TypeId) (x : Operand) (ho : o.op = .load ty x)
    (b k : Nat) (hx : a.eval x = .pointer (some ⟨b, k, none⟩)) (cs : List Value) (d : TypeDesc) (hc : w.rangeAt b k cs)
    (hu : P.underlying ty = some d) (hd : d.isRow = true) (hi : (P.info? ty).map (·.size) = some cs.length) (hw : Region.wanted o (yielded ops a.tmps) = true)
    (h : wpList P ops Q rest (a.put o.dst (.agg cs.toArray)) w) : wpList P ops Q (o :: rest) a w :=
  BigFrame.wpList_want hw fun _ hK => wp_load_mid ty x ho b k hx cs d hc hu hd hi (hK _ _ h)
theorem range_keep {W W1 : World} {B b o : Nat} {cs : List Value} (hb : Below B W W1) (hlt : b < B) (h : W.rangeAt b o cs) : W1.rangeAt b o cs := fun j v hv => (hb.cell (p := ⟨b, o + j, none⟩) hlt).trans (h j v hv)
/-- Elements lie side by side behind A, each of so many cells, in a block below B. -/
def ElemsAt (w : World) (B : Nat) (A : Option Addr) (k size : Nat) (L : Nat → List Value) : Prop :=
  ∀ i, i < k → ∃ g, A = some ⟨g, 0, none⟩ ∧ g < B ∧ w.rangeAt g (i * size) (L i) ∧ (L i).length = size ∧ ∀ x ∈ L i, x.oneCell' = true
theorem ElemsAt.below {w w' : World} {B B' : Nat} {A : Option Addr} {k size : Nat} {L : Nat → List Value} (h : ElemsAt w B A k size L) (hb : Below B w w') (hB : B ≤ B') : ElemsAt w' B' A k size L := fun i hi => by
  obtain ⟨g, h1, h2, h3, h4, h5⟩ := h i hi
  exact ⟨g, h1, Nat.lt_of_lt_of_le h2 hB, range_keep hb h2 h3, h4, h5⟩
/-- The statement of these cells is told right, whatever was made since. -/
def StOk (w : World) (A : Option Addr) (n c : Nat) (p v : Int) (cs : List Value) : Prop :=
  ∀ W, Below w.heap.size w W → Calls Try.prog 70 #[.agg #[.slice A n c, .int .i64 p, .int .i64 v], .agg cs.toArray] W fun e w' => e = .returned (.bool true) ∧ Below W.heap.size W w'
theorem info_st' {cs : List Value} (h : cs.length = 20) : (Try.prog.info? 121).map (·.size) = some cs.toArray.size := by rw [List.size_toArray, h]; exact info_st

set_option maxRecDepth 100000 in
set_option maxHeartbeats 2000000 in
theorem body_right (A : Option Addr) (n c : Nat) (p v : Int) (D : Option Addr) (k cap : Nat) (L : Nat → List Value) (w : World) (hk : k ≤ 1000000) (hkc : k ≤ cap) (hm : ElemsAt w w.heap.size D k 20 L) (hs : ∀ i, i < k → StOk w A n c p v (L i)) :
    Calls Try.prog 55 #[.agg #[.slice A n c, .int .i64 p, .int .i64 v], .slice D k cap] w fun e w' => e = .returned (.bool true) ∧ Below w.heap.size w w' := by
  replace hm := Lib.hid hm
  replace hs := Lib.hid hs
  go_enter Try.func55, Try.ntmps55
  go_wp2_with fail
  go_loopw [9] (fun i wr => ∃ q : Nat, q ≤ k ∧ i = .int .i64 q ∧ Hid (wr.heap[w.heap.size]? = some (.cells #[.slice A n c, .int .i64 p, .int .i64 v] 137 (0, 0))) ∧ Below w.heap.size w wr) (fun i _ => k - (intOf i).toNat)
  case atStart => exact ⟨0, by omega, rfl, Lib.hid (blkA _ _ rfl), (Below.refl _ _).alloc (Nat.le_refl _) _⟩
  case round =>
    obtain ⟨q, hq, rfl, hk0, hB⟩ := hrel
    by_cases hlt : q < k
    · obtain ⟨g, rfl, hg, hr, hl, h1⟩ := hm.out q hlt
      have Hr := Lib.hid (range_keep hB hg hr)
      obtain ⟨cs, hcs⟩ : ∃ cs, L q = cs := ⟨_, rfl⟩
      have Hst := Lib.hid (hs.out q hlt)
      rw [hcs] at Hr hl h1 Hst
      have Hl := Lib.hid hl
      have H1 := Lib.hid (all_oneCell_toArray h1)
      clear hr hl h1 hcs
      have e20 : (wr.heap.size : Nat) = wr.heap.size := rfl
      clear e20
      go_wp2_with (first
        | (refine ld_mid 121 _ rfl _ _ rfl cs _ Hr.out Try.underlying121 rfl (by rw [Hl.out]; exact info_st) rfl ?_)
        | (refine wpList_store_new rfl 121 _ _ rfl rfl _ _ _ _ rfl rfl rfl rfl (info_st' Hl.out) (by simp [Hl.out]) H1.out ?_)
        | (refine ld_row 137 _ rfl _ rfl _ _ _ _ (blkUp hk0.out _) Try.underlying137 rfl (by kernel_rfl) rfl ?_)
        | (refine ld_row 121 _ rfl _ rfl _ _ _ _ (blkA _ _ rfl) Try.underlying121 rfl (info_st' Hl.out) rfl ?_))
      refine (Hst.out _ (hB.alloc hB.size _)).mono ?_
      rintro e w2 ⟨rfl, hb2⟩
      have k2 := Lib.hid (blk_keep hb2 (blkUp hk0.out _))
      have hB2 : Below w.heap.size w w2 := bel_up (hB.alloc hB.size _) (Nat.le_refl _) hb2
      clear hb2 hk0 hB Hst Hr Hl H1
      go_wp2
      go_roundw
      case rel => exact ⟨q + 1, by omega, by go_num, k2, hB2⟩
      case measure => simp [intOf]; omega
    · go_wp2
      go_ret
      exact ⟨rfl, hB⟩
end Go.Proofs.Ytmcomhjfpegieaa

