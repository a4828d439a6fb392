/-
  flow's layer: a list of statements, each of which lays something: what body makes of it.
-/
import Derived.Test.YtnejbjeomcenoaaFg
namespace Go.Proofs.Ytnejbjeomcenoaa
open Go.RowKit

/-- What a layer has: nodes, edges (how many; their cells), heads. -/
structure Ls where
  N : Int
  ne : Nat
  es : List Value
  nh : Nat
  hs : List Value
def LayS (w : World) (base g : Nat) (s : Ls) : Prop := LayAt w base g s.N s.ne s.es s.nh s.hs
/-- The statement of these cells lays what f says. -/
def StLay (w : World) (base : Nat) (cs : List Value) (f : Int → Int → Ls → Ls) : Prop :=
  ∀ W g s a b, Below base w W → LayS W base g s → s.ne ≤ 400 → 0 ≤ s.N → s.N ≤ 100000000 →
    Calls Try.prog 35 #[.pointer (some ⟨g, 0, none⟩), .agg cs.toArray, .int .i64 a, .int .i64 b] W fun e w' => e = .returned (.tuple #[]) ∧ LayS w' base g (f a b s) ∧ Below base W w'
/-- What body makes of the statements from i on, r of which are left. -/
def bodyF (f : Nat → Int → Int → Ls → Ls) (to : Int) : Nat → Nat → Int → Ls → Ls
  | 0, _, _, s => s
  | r + 1, i, a, s => if 400 < s.ne then s else if r = 0 then f i a to s else bodyF f to r (i + 1) s.N (f i a s.N { s with N := s.N + 1 })

theorem lay_node {w : World} {base g : Nat} {s : Ls} (h : LayS w base g s) : LayS (w.setCell ⟨g, 0, none⟩ (.int .i64 (s.N + 1))) base g { s with N := s.N + 1 } := by
  obtain ⟨E, H, ce, ch, hg, hE, hH, hbg, hEg, hHg⟩ := h
  have hset : w.grownBy (w.setCell ⟨g, 0, none⟩ (.int .i64 (s.N + 1))) (some g) := ⟨rfl, rfl, rfl, by simp, fun i hi hne => Below.heap_setCell _ _ _ _ (by rintro rfl; exact hne rfl)⟩
  refine ⟨E, H, ce, ch, by simp [World.setCell, Array.getElem?_modify, hg], hE.kept hset ?_, hH.kept hset ?_, hbg, hEg, hHg⟩
  · cases hh : (Value.slice E s.ne ce).ownBlock with
    | none => exact .inl rfl
    | some b => exact .inr (fun e => hEg b hh (by simpa using e))
  · cases hh : (Value.slice H s.nh ch).ownBlock with
    | none => exact .inl rfl
    | some b => exact .inr (fun e => (hHg b hh).1 (by simpa using e))
theorem blk_set {W : World} {b g o : Nat} {x : Obj} {v : Value} (h : W.heap[b]? = some x) (hne : b ≠ g) : (W.setCell ⟨g, o, none⟩ v).heap[b]? = some x := by
  rw [Below.heap_setCell _ _ _ _ hne]
  exact h

set_option maxRecDepth 100000 in
set_option maxHeartbeats 4000000 in
theorem lay_body (w : World) (base g : Nat) (s0 : Ls) (D : Option Addr) (k cap : Nat) (L : Nat → List Value) (f : Nat → Int → Int → Ls → Ls) (a0 to : Int) (hk : k ≤ 1000) (hk0 : 0 < k) (hkc : k ≤ cap)
    (hN0 : 0 ≤ s0.N) (hN1 : s0.N ≤ 1000000) (hm : ElemsAt w base D k 20 L) (hs : ∀ i, i < k → StLay w base (L i) (f i)) (hf : ∀ i a b s, s.N ≤ (f i a b s).N ∧ (f i a b s).N ≤ s.N + 1000) (h : LayS w base g s0) :
    Calls Try.prog 21 #[.pointer (some ⟨g, 0, none⟩), .slice D k cap, .int .i64 a0, .int .i64 to] w fun e w' => e = .returned (.tuple #[]) ∧ LayS w' base g (bodyF f to k 0 a0 s0) ∧ Below base w w' := by
  replace hm := Lib.hid hm
  replace hs := Lib.hid hs
  replace hf := Lib.hid hf
  have hkz : ((k : Int) == 0) = false := by rw [beq_eq_false_iff_ne]; omega
  obtain ⟨S, hS⟩ : ∃ S, bodyF f to k 0 a0 s0 = S := ⟨_, rfl⟩
  rw [hS]
  have hbg : base ≤ g ∧ g < w.heap.size := by
    obtain ⟨E, H, ce, ch, hg, hE, hH, hbg, hEg, hHg⟩ := h
    exact ⟨hbg, blk_lt hg⟩
  obtain ⟨hbg, hgw⟩ := hbg
  replace h := Lib.hid h
  replace hS := Lib.hid hS
  go_enter Try.func21, Try.ntmps21
  go_wp2_with fail
  go_loopw [2, 21] (fun fr i wr => ∃ (q : Nat) (a : Int) (s : Ls), q ≤ k ∧ i = .int .i64 q ∧ fr = .int .i64 a ∧ Hid (LayS wr base g s) ∧ Hid (bodyF f to (k - q) q a s = S) ∧ Below base w wr ∧ 0 ≤ s.N ∧ s.N ≤ 1000000 + 1001 * q ∧ g < wr.heap.size) (fun _ i _ => k - (intOf i).toNat)
  case atStart => exact ⟨0, a0, s0, by omega, rfl, rfl, h, hS, Below.refl _ _, hN0, by omega, hgw⟩
  case round =>
    obtain ⟨q, a, s, hq, rfl, rfl, hL, hF, hB, hsN0, hsN1, hgr⟩ := hrel
    by_cases hlt : q < k
    · obtain ⟨d, rfl, hd, hr, hl, h1⟩ := hm.out q hlt
      have Hr := Lib.hid (range_keep hB hd hr)
      have Hst := Lib.hid (hs.out q hlt)
      obtain ⟨cs, hcs⟩ : ∃ cs, L q = cs := ⟨_, rfl⟩
      rw [hcs] at Hr hl h1 Hst
      have Hl := Lib.hid hl
      have H1 := Lib.hid (all_oneCell_toArray h1)
      clear hr hl h1 hcs
      obtain ⟨r, hr⟩ : ∃ r, k - q = r + 1 := ⟨k - q - 1, by omega⟩
      have hF2 := hF.out
      rw [hr] at hF2
      have hrq : k = q + r + 1 := by omega
      clear hr
      have Hrq := Lib.hid hrq
      have hq1 : (q : Int) + 1 ≤ k := by omega
      clear hrq
      unfold bodyF at hF2
      have hbs : base ≤ wr.heap.size := by omega
      have HLx := Lib.hid (lay_below hL.out ((Below.refl _ wr).alloc (Nat.le_refl _) (.cells cs.toArray 40)))
      obtain ⟨E, H, ce, ch, hg, _⟩ := hL.out
      have kg := Lib.hid (blkUp hg (.cells cs.toArray 40))
      clear hg
      by_cases hful : 400 < s.ne
      · rw [if_pos hful] at hF2
        subst hF2
        have hfd : decide (400 < s.ne) = true := by simpa using hful
        go_wp2_with (first
          | (refine ld_mid 40 _ rfl _ _ rfl cs _ Hr.out Try.underlying40 rfl (by rw [Hl.out]; exact info_st) rfl ?_)
          | (refine wpList_store_new rfl 40 _ _ rfl rfl _ _ _ _ rfl rfl rfl rfl (info_st' Hl.out) (by simp [Hl.out]) H1.out ?_))
        refine (full_any _ g _ _ _ _ _ kg.out).mono ?_
        rintro e w2 ⟨rfl, rfl⟩
        go_wp2_with fail
        go_returns
        exact ⟨rfl, HLx.out, hB.alloc hbs _⟩
      · rw [if_neg hful] at hF2
        have hfd : decide (400 < s.ne) = false := by simpa using hful
        by_cases hr0 : r = 0
        · rw [if_pos hr0] at hF2
          subst hr0
          have hqk : q + 1 = k := by have := Hrq.out; omega
          have Hqk := Lib.hid hqk
          have hnl : decide ((q : Int) < (k : Int) - 1) = false := by simp; omega
          have Hf2 := Lib.hid hF2
          clear hF2 hqk
          go_wp2_with (first
            | (refine ld_mid 40 _ rfl _ _ rfl cs _ Hr.out Try.underlying40 rfl (by rw [Hl.out]; exact info_st) rfl ?_)
            | (refine wpList_store_new rfl 40 _ _ rfl rfl _ _ _ _ rfl rfl rfl rfl (info_st' Hl.out) (by simp [Hl.out]) H1.out ?_))
          refine (full_any _ g _ _ _ _ _ kg.out).mono ?_
          rintro e w2 ⟨rfl, rfl⟩
          go_wp2_with (refine ld_row 40 _ rfl _ rfl _ _ _ _ (blkA _ _ rfl) Try.underlying40 rfl (info_st' Hl.out) rfl ?_)
          refine (Hst.out _ g s _ _ (hB.alloc hbs _) HLx.out (by omega) hsN0 (by omega)).mono ?_
          rintro e w2 ⟨rfl, hL2, hb2⟩
          have hB2 : Below base w w2 := (hB.alloc hbs _).trans hb2
          have hg2 : g < w2.heap.size := Nat.lt_of_lt_of_le hgr (by have := hb2.size; simp at this; omega)
          have hN2 := hf.out q a to s
          replace hL2 := Lib.hid hL2
          clear hb2 hB Hst Hr Hl H1 HLx kg
          go_wp2
          go_roundw
          case rel => exact ⟨q + 1, to, f q a to s, by omega, by go_num, rfl, hL2, Lib.hid (by rw [Hqk.out, Nat.sub_self]; unfold bodyF; exact Hf2.out), hB2, by omega, by omega, hg2⟩
          case measure => simp [intOf]; omega
        · rw [if_neg hr0] at hF2
          have hnl : decide ((q : Int) < (k : Int) - 1) = true := by have := Hrq.out; simp; omega
          have hqr : k - (q + 1) = r := by have := Hrq.out; omega
          have Hqr := Lib.hid hqr
          have Hf2 := Lib.hid hF2
          have hq2 : (q : Int) < (k : Int) - 1 := by simpa using hnl
          clear hF2 hqr
          go_wp2_with (first
            | (refine ld_mid 40 _ rfl _ _ rfl cs _ Hr.out Try.underlying40 rfl (by rw [Hl.out]; exact info_st) rfl ?_)
            | (refine wpList_store_new rfl 40 _ _ rfl rfl _ _ _ _ rfl rfl rfl rfl (info_st' Hl.out) (by simp [Hl.out]) H1.out ?_))
          refine (full_any _ g _ _ _ _ _ kg.out).mono ?_
          rintro e w2 ⟨rfl, rfl⟩
          go_wp2_with fail
          refine (node_any _ g _ _ _ kg.out hsN0 (by omega)).mono ?_
          rintro e w2 ⟨rfl, rfl⟩
          have kst := Lib.hid (blkA (b := wr.heap.size) (wr.setCell ⟨g, 0, none⟩ (.int .i64 (s.N + 1))) (.cells cs.toArray 40) (by simp))
          have hLs : LayS ((wr.setCell ⟨g, 0, none⟩ (.int .i64 (s.N + 1))).alloc (.cells cs.toArray 40)) base g { s with N := s.N + 1 } := lay_below (lay_node hL.out) ((Below.refl _ _).alloc (Nat.le_refl _) _)
          have hBs : Below base w ((wr.setCell ⟨g, 0, none⟩ (.int .i64 (s.N + 1))).alloc (.cells cs.toArray 40)) := (hB.setCell hbg _).alloc (by simp; omega) _
          replace hLs := Lib.hid hLs
          go_wp2_with (refine ld_row 40 _ rfl _ rfl _ _ _ _ kst.out Try.underlying40 rfl (info_st' Hl.out) rfl ?_)
          refine (Hst.out _ g { s with N := s.N + 1 } _ _ hBs hLs.out (by show s.ne ≤ 400; omega) (by show 0 ≤ s.N + 1; omega) (by show s.N + 1 ≤ 100000000; omega)).mono ?_
          rintro e w2 ⟨rfl, hL2, hb2⟩
          have hB2 : Below base w w2 := hBs.trans hb2
          have hg2 : g < w2.heap.size := Nat.lt_of_lt_of_le hgr (by have := hb2.size; simp at this; omega)
          have hN2 := hf.out q a s.N { s with N := s.N + 1 }
          replace hL2 := Lib.hid hL2
          clear hb2 hB Hst Hr Hl H1 HLx kg
          go_wp2
          go_roundw
          case rel => exact ⟨q + 1, s.N, f q a s.N { s with N := s.N + 1 }, by omega, by go_num, rfl, hL2, Lib.hid (by rw [Hqr.out]; exact Hf2.out), hB2, by have := hN2.1; (try simp only [] at this); omega, by have := hN2.2; (try simp only [] at this); push_cast; omega, hg2⟩
          case measure => simp [intOf]; omega
    · obtain rfl : q = k := by omega
      have hF2 := hF.out
      rw [Nat.sub_self] at hF2
      unfold bodyF at hF2
      subst hF2
      go_wp2_with fail
      go_end0
      exact ⟨rfl, hL.out, hB⟩
end Go.Proofs.Ytnejbjeomcenoaa

