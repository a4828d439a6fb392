/-
  QueueSends' walk.
-/
import Derived.Test.YtgepaajhccadhaaQw
namespace Go.Proofs.Ytgepaajhccadhaa
open Go.RowKit
theorem fourth1 (n : Int) : ∃ N : Nat, 1 ≤ N ∧ N ≤ 4 ∧ wrap64 (1 + wrap64 ((IntKind.u64.wrap n).tmod 4)) = (N : Int) := by
  obtain ⟨t, ht, e⟩ := fourth n
  refine ⟨t + 1, by omega, by omega, ?_⟩
  rw [e]
  unfold wrap64
  omega
theorem tagsK_more (xs : List (Int × Int)) (k d : Nat) : ∃ l, tagsK xs (k + d) = tagsK xs k ++ l := by
  induction d with
  | zero => exact ⟨[], by simp⟩
  | succ d ih =>
    obtain ⟨l, hl⟩ := ih
    refine ⟨l ++ [k + d].filter (someB xs), ?_⟩
    have e : tagsK xs (k + d + 1) = tagsK xs (k + d) ++ [k + d].filter (someB xs) := by
      unfold tagsK
      rw [List.range_succ, List.filter_append]
    rw [show k + (d + 1) = k + d + 1 by omega, e, hl, List.append_assoc]
theorem tagsK_at {xs : List (Int × Int)} {n k : Nat} {p0 p1 : Int} (hk : k < n) (hp : xs[k]? = some (p0, p1)) (h : p0 ≤ p1) : (tagsK xs n)[(tagsK xs k).length]? = some k := by
  obtain ⟨l, hl⟩ := tagsK_more xs (k + 1) (n - (k + 1))
  rw [show k + 1 + (n - (k + 1)) = n by omega, tagsK_yes hp h] at hl
  rw [hl, List.append_assoc, List.getElem?_append_right (Nat.le_refl _), Nat.sub_self]
  rfl
theorem intsOf_at {l : List Nat} {j k : Nat} (h : l[j]? = some k) : (intsOf l)[j]? = some (.int .i64 (k : Int)) := by simp [intsOf, h]
def SdRel (w : World) (h : Int) (xs : List (Int × Int)) (b g c N m B : Nat) (v : Value) (vi va : Value) (wr : World) : Prop := ∃ (k j : Nat), k ≤ N ∧ j ≤ k ∧ (tagsK xs k).length = j ∧ vi = .int .i64 k ∧ va = .int .i64 j ∧ wr.heap[b]? = some (.cells #[.int .i64 0, .int .i64 h, .slice (some ⟨g, 0, none⟩) N c] 32 (0, 0)) ∧ ElemAt wr 0 29 g c xs ∧ wr.ownsRow B 3 1 v m (intsOf (tagsK xs N)) ∧ Below w.heap.size w wr
set_option maxRecDepth 100000 in
set_option maxHeartbeats 8000000 in
theorem sendsLaw_probe (tags size : Int) (A : Option Addr) (len ca : Nat) (ps : List (Int × Int × Int)) (w : World) (hm : ps.length = len) (hmb : len ≤ 9223372036854775807) (hp : TRow w A ps) :
    Calls Try.prog 3 #[.int .i64 tags, .int .i64 size, .slice A len ca] w fun e w' => e = .returned (.bool true) ∧ Below w.heap.size w w' := by
  replace hm := Lib.hid hm
  replace hp := Lib.hid hp
  have hsz := Lib.hid (sixteenth size)
  have htg := Lib.hid (fourth1 tags)
  go_enter Try.func3, Try.ntmps3
  go_upto_region 1 with fail
  go_cut [7, 8] from 15 to 24 (fun e7 e8 wx => ∃ (N : Nat) (K : Int), 1 ≤ N ∧ N ≤ 4 ∧ 1 ≤ K ∧ K ≤ 16 ∧ e7 = .int .i64 (N : Int) ∧ e8 = .int .i64 K ∧ w = wx)
  case first =>
    as_aux_lemma =>
      go_wp2_with fail
      go_meet
      obtain ⟨N, n1, n4, hN⟩ := htg.out
      exact ⟨N, _, n1, n4, hsz.out.1, hsz.out.2, by rw [hN], rfl, rfl⟩
  case rest =>
    as_aux_lemma =>
      obtain ⟨N, K, hN1, hN4, hK1, hK2, rfl, rfl, rfl⟩ := hcut
      clear hsz htg
      obtain ⟨h, xs, hX⟩ : ∃ h xs, buildP K N ps = (h, xs) := ⟨_, _, rfl⟩
      have hI := build_inv K N ps hK1 (by omega)
      rw [hX] at hI
      have hxl : xs.length = N := hI.1
      have cb := build_out (ca := ca) (n := N) (by omega) hK1 (by omega) hm.out hmb hp.out hX
      replace hxl := Lib.hid hxl
      clear hX hI
      go_wp2_with fail
      refine cb.mono ?_
      rintro e v1 ⟨g1, c1, g2, c2, rfl, hE, hR, hB⟩
      clear cb
      replace hE := Lib.hid (elem_base (b := 0) hE (Nat.zero_le _))
      replace hR := Lib.hid (elem_base (b := 0) hR (Nat.zero_le _))
      go_upto_region 3 with fail
      refine wp_world (fun W => W.heap[v1.heap.size]? = some (.cells #[.int .i64 0, .int .i64 h, .slice (some ⟨g1, 0, none⟩) N c1] 28 (0, 0)) ∧ W.heap[v1.heap.size + 1]? = some (.cells #[.int .i64 0, .int .i64 h, .slice (some ⟨g2, 0, none⟩) N c2] 32 (0, 0)) ∧ ElemAt W 0 25 g1 c1 xs ∧ ElemAt W 0 29 g2 c2 xs ∧ Below w.heap.size w W) ⟨blkUp (blkA _ _ (by first | rfl | simp only [World.size_alloc])) _, blkA _ _ (by first | rfl | simp only [World.size_alloc]), elem_keep hE.out (((Below.refl _ _).alloc (by first | exact Nat.le_refl _ | (simp only [World.size_alloc]; omega)) _).alloc (by first | exact Nat.le_refl _ | (simp only [World.size_alloc]; omega)) _), elem_keep hR.out (((Below.refl _ _).alloc (by first | exact Nat.le_refl _ | (simp only [World.size_alloc]; omega)) _).alloc (by first | exact Nat.le_refl _ | (simp only [World.size_alloc]; omega)) _), ((hB).alloc (by first | exact hB.size | (have := hB.size; simp only [World.size_alloc]; omega)) _).alloc (by first | exact hB.size | (have := hB.size; simp only [World.size_alloc]; omega)) _⟩ ?_
      clear hB hE hR
      rintro w2 ⟨k0, k1, hE, hR, hB⟩
      replace hE := Lib.hid hE
      replace hR := Lib.hid hR
      go_wp2_with fail
      refine (sends_any _).mono ?_
      rintro e w3 ⟨rfl, hb⟩
      replace k0 := blk_keep hb k0
      replace k1 := blk_keep hb k1
      replace hE := Lib.hid (elem_keep hE.out hb)
      replace hR := Lib.hid (elem_keep hR.out hb)
      replace hB := hB.trans (hb.mono hB.size)
      clear hb
      have r0 := row_of k0
      have f0 := frozen_of k0
      have z0 := blk_lt k0
      have r1 := row_of k1
      have f1 := frozen_of k1
      have z1 := blk_lt k1
      go_wp2_with fail
      refine (tags_row 0 h (some ⟨g1, 0, none⟩) N c1 xs _ hxl.out (by omega) (prow_elem hE.out)).mono ?_
      rintro e w4 ⟨v, m, hm', rfl, hv, hO, hb⟩
      rw [hxl.out] at hm' hO
      replace k0 := blk_keep hb k0
      replace k1 := blk_keep hb k1
      replace hE := Lib.hid (elem_keep hE.out hb)
      replace hR := Lib.hid (elem_keep hR.out hb)
      replace hB := hB.trans (hb.mono hB.size)
      clear r0 f0 z0 r1 f1 z1
      clear hb
      have hmN : m ≤ N := by rw [← hm']; exact tagsK_le xs N
      replace hm' := Lib.hid hm'
      replace hv := Lib.hid hv
      replace hO := Lib.hid hO
      go_wp2_with fail
      generalize v1.heap.size + 1 = b1 at *
      go_loopw [14, 13] (fun vi va wr => SdRel w h xs b1 g2 c2 N m (w3.heap.size + 1) v vi va wr) (fun i _ _ => N - (intOf i).toNat)
      case atStart => exact ⟨0, 0, Nat.zero_le _, Nat.le_refl _, rfl, rfl, rfl, k1, hR.out, hO.out, hB⟩
      case round =>
        clear k0 k1 hE hR hO hB
        obtain ⟨k, j, hk, hjk, hj, rfl, rfl, k1, hR, hO, hB⟩ := hrel
        replace hj := Lib.hid hj
        by_cases hlt : k < N
        · have hlt2 : (k : Int) < (N : Int) := by omega
          have hk0 : (0 : Int) ≤ (k : Int) := by omega
          have hkb : (k : Int) ≤ 4 := by omega
          have hj0 : (0 : Int) ≤ (j : Int) := by omega
          have hjb : (j : Int) ≤ 4 := by omega
          obtain ⟨p0, p1, hpp⟩ := pair_at hxl.out hlt
          have mkS : ∀ W, Below wr.heap.size wr W → W.cell? ⟨b1, 2, none⟩ = some (.slice (some ⟨g2, 0, none⟩) N c2) ∧ W.cell? ⟨g2, k * 2, none⟩ = some (.int .i64 p0) ∧ W.cell? ⟨g2, k * 2 + 1, none⟩ = some (.int .i64 p1) := fun W hw => ⟨row_of (blk_keep hw k1) 2, (elem_cells (elem_keep hR hw) hxl.out hlt hpp).1, (elem_cells (elem_keep hR hw) hxl.out hlt hpp).2⟩
          replace hpp := Lib.hid hpp
          replace hR := Lib.hid hR
          replace hO := Lib.hid hO
          obtain ⟨bd, hbd⟩ : ∃ bd, decide (p1 < p0) = bd := ⟨_, rfl⟩
          go_upto_region 10 with fail
          have hBn := Below.refl wr.heap.size wr
          have s1 := k1
          clear k1
          go_region_held3 (fun W => W.cell? ⟨b1, 2, none⟩ = some (.slice (some ⟨g2, 0, none⟩) N c2) ∧ W.cell? ⟨g2, k * 2, none⟩ = some (.int .i64 p0) ∧ W.cell? ⟨g2, k * 2 + 1, none⟩ = some (.int .i64 p1))
            (first | (with_reducible exact mkS _ hBn) | (with_reducible exact mkS _ (Below.drew hBn)))
            (fail)
          clear mkS
          replace hbd := Lib.hid hbd
          cases bd with
          | true =>
            have hlt3 : p1 < p0 := of_decide_eq_true hbd.out
            have htk := Lib.hid (tagsK_no hpp.out hlt3)
            clear hlt3
            go_wp2_with fail
            exact ⟨⟨k + 1, j, by omega, by omega, by rw [htk.out]; exact hj.out, by go_num, rfl, s1, hR.out.drew, hO.out.drew, hB.drew⟩, by simp [intOf]; omega⟩
          | false =>
            have hle3 : p0 ≤ p1 := by have := of_decide_eq_false hbd.out; omega
            have htk := Lib.hid (tagsK_yes hpp.out hle3)
            have hat := tagsK_at hlt hpp.out hle3
            rw [hj.out] at hat
            have hjm : j < m := by
              rw [← hm'.out]
              rcases Nat.lt_or_ge j (tagsK xs N).length with h | h
              · exact h
              · rw [List.getElem?_eq_none h] at hat; cases hat
            have hjm2 : (j : Int) < (m : Int) := by omega
            obtain ⟨gt, ct, rfl⟩ : ∃ gt ct, v = .slice (some ⟨gt, 0, none⟩) m ct := by
              rcases hv.out with h | ⟨_, h⟩
              · omega
              · exact h
            have hcl : wr.drew.cell? ⟨gt, j, none⟩ = some (.int .i64 (k : Int)) := (World.ownsRow.cellAt hO.out.drew j (by omega)).trans (intsOf_at hat)
            clear hle3 hat
            go_wp2_with fail
            exact ⟨⟨k + 1, j + 1, by omega, by omega, by rw [htk.out, List.length_append, hj.out]; rfl, by go_num, by go_num, s1, hR.out.drew, hO.out.drew, hB.drew⟩, by simp [intOf]; omega⟩
        · have hlt2 : ¬ (k : Int) < (N : Int) := by omega
          obtain rfl : k = N := by omega
          obtain rfl : j = m := hj.out.symm.trans hm'.out
          have hlen : ∃ Av ct, v = .slice Av j ct := by
            rcases hv.out with ⟨h0, h1⟩ | ⟨_, gt, ct, h⟩
            · exact ⟨none, 0, by rw [h1, h0]⟩
            · exact ⟨_, _, h⟩
          obtain ⟨Av, ct, rfl⟩ := hlen
          clear hv hO
          go_wp2_with fail
          go_ret
          exact ⟨by simp, hB⟩
end Go.Proofs.Ytgepaajhccadhaa
