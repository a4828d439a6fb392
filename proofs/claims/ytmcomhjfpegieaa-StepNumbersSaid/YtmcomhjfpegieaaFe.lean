/-
  check.Right of a system without channels and of one process, whose statements are right.
-/
import Derived.Test.YtmcomhjfpegieaaFd
namespace Go.Proofs.Ytmcomhjfpegieaa
open Go.RowKit

set_option maxRecDepth 100000 in
set_option maxHeartbeats 2000000 in
theorem right_one (v : Int) (h : Nat) (cp : Nat) (D : Option Addr) (k cap : Nat) (L : Nat → List Value) (w : World) (hv0 : 0 ≤ v) (hv6 : v ≤ 6) (hk : k ≤ 1000000) (hkc : k ≤ cap) (hcp : 1 ≤ cp)
    (hh : h < w.heap.size) (hp : w.rangeAt h 0 [.int .i64 v, .slice D k cap]) (hm : ElemsAt w w.heap.size D k 20 L) (hs : ∀ i, i < k → StOk w none 0 0 0 v (L i)) :
    Calls Try.prog 45 #[.agg #[.slice none 0 0, .slice (some ⟨h, 0, none⟩) 1 cp]] w fun e w' => e = .returned (.bool true) ∧ Below w.heap.size w w' := by
  replace hm := Lib.hid hm
  replace hs := Lib.hid hs
  replace hp := Lib.hid hp
  go_enter Try.func45, Try.ntmps45
  go_wp2_with fail
  go_loop [27] (fun i => i = .int .i64 0) (fun _ => 0)
  case atStart => rfl
  case round =>
    subst hrel
    go_wp2_with fail
    go_loopw [41] (fun i wr => ∃ q : Nat, q ≤ 1 ∧ i = .int .i64 q ∧ Hid (wr.heap[w.heap.size]? = some (.cells #[.slice none 0 0, .slice (some ⟨h, 0, none⟩) 1 cp] 115 (0, 0))) ∧ Below w.heap.size w wr) (fun i _ => 1 - (intOf i).toNat)
    case atStart => exact ⟨0, by omega, rfl, Lib.hid (blkA _ _ rfl), (Below.refl _ _).alloc (Nat.le_refl _) _⟩
    case round =>
      obtain ⟨q, hq, rfl, hk0, hB⟩ := hrel
      have r0 := row_of hk0.out
      have hz := blk_lt hk0.out
      by_cases hlt : q < 1
      · obtain rfl : q = 0 := by omega
        have Hr := Lib.hid (range_keep hB hh hp.out)
        go_wp2_with (first
          | (refine ld_mid 118 _ rfl _ _ rfl _ _ Hr.out Try.underlying118 rfl (by kernel_rfl) rfl ?_))
        refine (body_right none 0 0 0 v D k cap L _ hk hkc (hm.out.below ((hB.alloc hB.size _).alloc (Nat.le_trans hB.size (by simp only [World.size_alloc]; omega)) _) (Nat.le_trans hB.size (by simp only [World.size_alloc]; omega))) (fun i hi W hW => hs.out i hi W (((hB.alloc hB.size _).alloc (Nat.le_trans hB.size (by simp only [World.size_alloc]; omega)) _).trans (hW.mono (Nat.le_trans hB.size (by simp only [World.size_alloc]; omega)))))).mono ?_
        rintro e w2 ⟨rfl, hb2⟩
        have k2 := Lib.hid (blk_keep hb2 (blkUp (blkUp hk0.out _) _))
        have hB2 : Below w.heap.size w w2 := bel_up ((hB.alloc hB.size _).alloc (Nat.le_trans hB.size (by simp only [World.size_alloc]; omega)) _) (Nat.le_refl _) hb2
        clear hb2 hk0 hB r0 hz Hr
        go_wp2
        go_roundw
        case rel => exact ⟨1, by omega, by go_num, k2, hB2⟩
        case measure => simp [intOf]
      · go_wp2
        go_ret
        exact ⟨rfl, hB⟩
end Go.Proofs.Ytmcomhjfpegieaa

