/-
  queue.Tags.
-/
import Derived.Test.YtgepaajhccadhaaQl
namespace Go.Proofs.Ytgepaajhccadhaa
open Go.RowKit
theorem info_int : (Try.prog.info? 3).map (fun i => (i.zero, i.size, i.bytes)) = some (some (.int .i64 0), 1, 8) := by kernel_rfl
/-- Is there a number at this place? -/
def someB (xs : List (Int × Int)) (i : Nat) : Bool := decide ((xs.getD i (1, 0)).1 ≤ (xs.getD i (1, 0)).2)
/-- The first so many places at which there is a number. -/
def tagsK (xs : List (Int × Int)) (k : Nat) : List Nat := (List.range k).filter (someB xs)
def intsOf (l : List Nat) : List Value := l.map fun (i : Nat) => Value.int .i64 (i : Int)
theorem tagsK_le (xs : List (Int × Int)) (k : Nat) : (tagsK xs k).length ≤ k := by
  have := List.length_filter_le (someB xs) (List.range k)
  unfold tagsK
  rw [List.length_range] at this
  exact this
theorem tagsK_yes {xs : List (Int × Int)} {k : Nat} {p0 p1 : Int} (h : xs[k]? = some (p0, p1)) (hp : p0 ≤ p1) : tagsK xs (k + 1) = tagsK xs k ++ [k] := by
  have e : someB xs k = true := by unfold someB; rw [List.getD, h]; exact decide_eq_true hp
  unfold tagsK
  rw [List.range_succ, List.filter_append, List.filter_cons_of_pos (by exact e), List.filter_nil]
theorem tagsK_no {xs : List (Int × Int)} {k : Nat} {p0 p1 : Int} (h : xs[k]? = some (p0, p1)) (hp : p1 < p0) : tagsK xs (k + 1) = tagsK xs k := by
  have e : ¬ (someB xs k = true) := by unfold someB; rw [List.getD, h]; simp; omega
  unfold tagsK
  rw [List.range_succ, List.filter_append, List.filter_cons_of_neg (by exact e), List.filter_nil, List.append_nil]
theorem intsOf_len (l : List Nat) : (intsOf l).length = l.length := by simp [intsOf]
def TgRel (w : World) (l h : Int) (A : Option Addr) (n c : Nat) (xs : List (Int × Int)) (vi vt : Value) (wr : World) : Prop := ∃ (k m : Nat) (v : Value), k ≤ n ∧ m ≤ k ∧ (tagsK xs k).length = m ∧ vi = .int .i64 k ∧ v = vt ∧ wr.heap[w.heap.size]? = some (.cells #[.int .i64 l, .int .i64 h, .slice A n c] 28 (0, 0)) ∧ wr.ownsRow (w.heap.size + 1) 3 1 v m (intsOf (tagsK xs k)) ∧ ((m = 0 ∧ v = .slice none 0 0) ∨ (0 < m ∧ ∃ g cap, v = .slice (some ⟨g, 0, none⟩) m cap)) ∧ Below w.heap.size w wr
def TagsOut (w : World) (xs : List (Int × Int)) (e : Ending) (w' : World) : Prop := ∃ (v : Value) (m : Nat), (tagsK xs xs.length).length = m ∧ e = .returned v ∧ ((m = 0 ∧ v = .slice none 0 0) ∨ (0 < m ∧ ∃ g cap, v = .slice (some ⟨g, 0, none⟩) m cap)) ∧ w'.ownsRow (w.heap.size + 1) 3 1 v m (intsOf (tagsK xs xs.length)) ∧ Below w.heap.size w w'
set_option maxRecDepth 100000 in
set_option maxHeartbeats 4000000 in
theorem tags_row (l h : Int) (A : Option Addr) (n c : Nat) (xs : List (Int × Int)) (w : World) (hn : xs.length = n) (hs : n ≤ 1048576) (hx : PRow w A xs) :
    Calls Try.prog 11 #[.agg #[.int .i64 l, .int .i64 h, .slice A n c]] w (TagsOut w xs) := by
  obtain ⟨ii, hii, iz0, iz1, iz2⟩ := info_parts info_int
  replace hii := Lib.hid hii
  replace hx := Lib.hid hx
  replace hn := Lib.hid hn
  go_enter Try.func11, Try.ntmps11
  go_wp2_with fail
  go_loopw [9, 3] (fun vi vt wr => TgRel w l h A n c xs vi vt wr) (fun i _ _ => n - (intOf i).toNat)
  case atStart => exact ⟨0, 0, _, Nat.zero_le _, Nat.le_refl _, rfl, rfl, rfl, blkA _ _ rfl, World.ownsRow_nil _ _ _ _, .inl ⟨rfl, rfl⟩, (Below.refl _ _).alloc (Nat.le_refl _) _⟩
  case round =>
    obtain ⟨k, m, v, hk, hmk, hm, rfl, rfl, k0, hO, hv, hB⟩ := hrel
    replace hm := Lib.hid hm
    by_cases hlt : k < n
    · have hlt2 : (k : Int) < (n : Int) := by omega
      have hk0 : (0 : Int) ≤ (k : Int) := by omega
      have hkb : (k : Int) ≤ 1048576 := by omega
      obtain ⟨p0, p1, hp⟩ := pair_at hn.out hlt
      obtain ⟨a, rfl, hab, a0, a1⟩ := prow_at (prow_keep hx.out hB) hp
      replace hp := Lib.hid hp
      go_upto_region 5 with fail
      refine wp_world (fun W => W.heap[w.heap.size]? = some (.cells #[.int .i64 l, .int .i64 h, .slice (some a) n c] 28 (0, 0)) ∧ W.heap[wr.heap.size]? = some (.cells #[.int .i64 p0, .int .i64 p1] 25 (0, 0)) ∧ W.ownsRow (w.heap.size + 1) 3 1 v m (intsOf (tagsK xs k)) ∧ Below w.heap.size w W) ⟨blkUp k0 _, blkA _ _ rfl, World.ownsRow.alloc hO _, hB.alloc hB.size _⟩ ?_
      have hw1 := hB.size
      have hw0 := blk_lt k0
      clear k0 hB a0 a1 hab hO
      rintro w2 ⟨k0, k1, hO, hB⟩
      replace hO := Lib.hid hO
      replace hv := Lib.hid hv
      by_cases hpp : p0 ≤ p1
      · have hem := Lib.hid (fun W => by have t := empty_any p0 p1 W; rw [decide_eq_false (by omega)] at t; exact t)
        have htk := Lib.hid (tagsK_yes hp.out hpp)
        clear hpp
        have r1 := row_of k1
        have z1 := blk_lt k1
        go_wp2_with fail
        refine (hem.out _).mono ?_
        rintro e w3 ⟨rfl, hb⟩
        replace k0 := blk_keep hb k0
        replace hO := Lib.hid (own_keep hO.out hb)
        replace hB := hB.trans (hb.mono hB.size)
        clear r1 z1 k1 hb
        have hne : ∀ g, v.ownBlock = some g → w.heap.size + 1 ≤ g := fun g h => (hO.out.lt g h).1
        replace hne := Lib.hid hne
        go_wp2_with (refine wpList_append_lies _ rfl _ _ _ rfl (w.heap.size + 1) 3 ii _ 1 8 Try.underlying36 hii.out iz0 iz1 iz2 rfl (by decide) v m (intsOf (tagsK xs k)) rfl (hO.out.alloc _) ⟨w3.heap.size, 0, none⟩ 1 1 [.int .i64 (k : Int)] rfl rfl (World.news_of_block (cs := #[.int .i64 (k : Int)]) (t := 3) (fr := (0, 0)) (blkA _ _ rfl)) (by simp [Value.oneCell']) (by decide) (by unfold maxLen; omega) (by omega) (by have := blk_lt k0; simp; omega) (w3.heap.size + 1) (by simp) ?_; intro gg cap w4 hown hgrow hat hlg; have q0 := grown_blk hgrow (b := w.heap.size) (blkUp k0 _) (fun e => by have := hne.out _ e; omega); have hB2 := Lib.hid (below_grown hgrow (hB.alloc hB.size _) (Nat.le_refl _) (fun b hb => by have := hne.out _ hb; omega)); replace hown := Lib.hid hown; clear hgrow hat)
        refine ⟨⟨k + 1, m + 1, _, by omega, by omega, by rw [htk.out, List.length_append, hm.out]; rfl, by go_num, rfl, q0, ?_, .inr ⟨by omega, gg, cap, rfl⟩, hB2.out⟩, by simp [intOf]; omega⟩
        rw [htk.out]
        have t := hown.out
        simp only [intsOf, List.map_append] at t ⊢
        exact t
      · have hem := Lib.hid (fun W => by have t := empty_any p0 p1 W; rw [decide_eq_true (by omega)] at t; exact t)
        have htk := Lib.hid (tagsK_no hp.out (by omega))
        clear hpp
        have r1 := row_of k1
        have z1 := blk_lt k1
        go_wp2_with fail
        refine (hem.out _).mono ?_
        rintro e w3 ⟨rfl, hb⟩
        replace k0 := blk_keep hb k0
        replace hO := Lib.hid (own_keep hO.out hb)
        replace hB := hB.trans (hb.mono hB.size)
        clear r1 z1 k1 hb
        go_wp2_with fail
        exact ⟨⟨k + 1, m, _, by omega, by omega, by rw [htk.out]; exact hm.out, by go_num, rfl, k0, by rw [htk.out]; exact hO.out, hv.out, hB⟩, by simp [intOf]; omega⟩
    · have hlt2 : ¬ (k : Int) < (n : Int) := by omega
      obtain rfl : k = n := by omega
      replace hO := Lib.hid hO
      replace hv := Lib.hid hv
      go_wp2_with fail
      go_ret
      exact ⟨_, m, by rw [hn.out]; exact hm.out, rfl, hv.out, by rw [hn.out]; exact hO.out, hB⟩
end Go.Proofs.Ytgepaajhccadhaa
