/-
  The document's answer for all words of a text, as the reference function computes it: the same as lexR.
-/
import Derived.Test.YtlnfilefpehnbaaRefB
import Derived.Deep.CutBlock
import Derived.Deep.DeepCutAuto
import Derived.RegionTactic
import Derived.Deep.LoopGhost
namespace Go.Proofs.Ytlnfilefpehnbaa
open Go.RowKit

theorem info_rtok : (Try.prog.info? 33).map (fun i => (i.zero, i.size, i.bytes)) = some (some (.agg #[.int .i64 0, .string ⟨#[]⟩, .int .i64 0, .int .i64 0]), 4, 40) := by kernel_rfl

def RLexPost (s : ByteArray) (w : World) (e : Ending) (w' : World) : Prop :=
  ∃ A c, e = .returned (.tuple #[.slice A (lexR s).1.length c, .int .i64 ((lexR s).2.1 : Nat), .int .i64 (lexR s).2.2]) ∧
    w'.ownsRow w.heap.size 33 4 (.slice A (lexR s).1.length c) (lexR s).1.length (tcells (lexR s).1) ∧ Below w.heap.size w w'
theorem RLexPost.bad {s : ByteArray} {w w' : World} {p : Nat} {x : Int} (h : lexR s = ([], p, x)) (hb : Below w.heap.size w w') : RLexPost s w (.returned (.tuple #[.slice none 0 0, .int .i64 p, .int .i64 x])) w' := by
  unfold RLexPost
  rw [h]
  exact ⟨none, 0, rfl, World.ownsRow_nil _ _ _ _, hb⟩
theorem RLexPost.good {s : ByteArray} {w w' : World} {A : Option Addr} {n c : Nat} {acc : List Tok} (h : lexR s = (acc, 0, 0)) (hn : n = acc.length) (ho : w'.ownsRow w.heap.size 33 4 (.slice A n c) n (tcells acc)) (hb : Below w.heap.size w w') :
    RLexPost s w (.returned (.tuple #[.slice A n c, .int .i64 0, .int .i64 0])) w' := by
  unfold RLexPost
  rw [h]
  subst hn
  exact ⟨A, c, rfl, ho, hb⟩

theorem rsign_at (s : ByteArray) (p : Nat) (w : World) (hs : s.size ≤ 140737488351232) (hp : p < s.size) {d : Nat} (hd : sgnLen (s.data.toList.drop p) = d) :
    Calls Try.prog 21 #[.string s, .int .i64 p] w fun e w' => e = .returned (.int .i64 d) ∧ Below w.heap.size w w' := by
  subst hd
  exact rsign_any s p w hs hp
theorem set_num (wr : World) (t : TypeId) (a b c d e : Value) (m : Nat) : ((wr.alloc (.cells #[a, b, c, d] t)).drewN m).setCell ⟨wr.heap.size, 2, none⟩ e = (wr.alloc (.cells #[a, b, e, d] t)).drewN m := by
  show ((wr.alloc (.cells #[a, b, c, d] t)).setCell ⟨wr.heap.size, 2, none⟩ e).drewN m = _
  rw [World.setCell_alloc_at _ _ _ _ _ rfl]
  rfl
/-- The word that was made lies at g; all that was there is as it was. -/
def TokAt (wr wx : World) (g : Nat) (k : Int) (T : ByteArray) (m : Int) (p : Nat) : Prop :=
  Below wr.heap.size wr wx ∧ g < wx.heap.size ∧ wx.cell? ⟨g, 0, none⟩ = some (.int .i64 k) ∧ wx.cell? ⟨g, 1, none⟩ = some (.string T) ∧ wx.cell? ⟨g, 2, none⟩ = some (.int .i64 m) ∧ wx.cell? ⟨g, 3, none⟩ = some (.int .i64 p)

set_option maxRecDepth 100000 in
set_option maxHeartbeats 8000000 in
theorem rlex_any (s : ByteArray) (w : World) (hs : s.size ≤ 2147483647) :
    Calls Try.prog 12 #[.string s] w fun e w' => RLexPost s w e w' := by
  obtain ⟨i0, hi, hz0, hz1, hz2⟩ := info_parts info_rtok
  obtain ⟨R, hR⟩ : ∃ R, lexGo s s.size 0 [] = R := ⟨_, rfl⟩
  have HR := Lib.hid hR
  go_enter Try.func12, Try.ntmps12
  go_wp2_with fail
  go_loopw [5, 6] (fun v i wr => ∃ (p f : Nat) (acc : List Tok) (A : Option Addr) (n c : Nat), p ≤ s.size ∧ s.size ≤ p + f ∧ lexGo s f p acc = R ∧ n = acc.length ∧ n ≤ p ∧ i = .int .i64 p ∧ v = .slice A n c ∧
      wr.ownsRow w.heap.size 33 4 (.slice A n c) n (tcells acc) ∧ Below w.heap.size w wr)
    (fun _ i _ => s.size - (intOf i).toNat)
  case atStart => exact ⟨0, s.size, [], none, 0, 0, by omega, by omega, hR, rfl, by omega, rfl, rfl, World.ownsRow_nil _ _ _ _, Below.refl _ _⟩
  case round =>
    obtain ⟨p, f, acc, A, n, c, hp, hf, hgo, hn, hnp, rfl, rfl, hown, hbw⟩ := hrel
    clear hR
    have Hn := Lib.hid hn
    clear hn
    have Hgo := Lib.hid hgo
    clear hgo
    by_cases hlt : p < s.size
    · have hgd := getD_eq s p hlt
      rcases Bool.eq_false_or_eq_true (gapB (s[p].toNat : Int)) with hg | hg
      · have Hst := Lib.hid (go_gap hlt (by rw [hgd]; exact hg) hf Hgo.out)
        have hg2 : (s[p].toNat : Int) == 32 ∨ (((s[p].toNat : Int) == 32) = false ∧ ((s[p].toNat : Int) == 10) = true) := by
          rcases Bool.eq_false_or_eq_true ((s[p].toNat : Int) == 32) with h | h
          · exact .inl h
          · refine .inr ⟨h, ?_⟩
            unfold gapB at hg
            rw [h, Bool.false_or] at hg
            exact hg
        clear hgd hg
        rcases hg2 with h32 | ⟨h32, h10⟩
        all_goals
          go_wp2_with fail
          go_roundw
          case rel =>
            obtain ⟨f', hf', hgo'⟩ := Hst.out
            exact ⟨p + 1, f', acc, A, n, c, by omega, hf', hgo', Hn.out, by omega, by go_num, rfl, hown, hbw⟩
          case measure => simp [intOf]; omega
      · have hgU : gapU (s.data.toList.getD p 0) = false := by rw [hgd]; exact hg
        have hhd : (s.data.toList.drop p).headD 0 = s[p] := by rw [head_drop, hgd]
        have h32 : ((s[p].toNat : Int) == 32) = false ∧ ((s[p].toNat : Int) == 10) = false := by
          unfold gapB at hg
          rcases Bool.eq_false_or_eq_true ((s[p].toNat : Int) == 32) with h | h
          · rw [h] at hg; cases hg
          · rw [h, Bool.false_or] at hg
            exact ⟨h, hg⟩
        obtain ⟨h32, h10⟩ := h32
        clear hgd hg
        rcases Bool.eq_false_or_eq_true (letB (s[p].toNat : Int)) with hl | hl
        · -- a name
          have hE0 : wordE (s.data.toList.drop p) = nameE (s.data.toList.drop p) := by
            unfold wordE
            rw [hhd, if_pos (show letU s[p] = true from hl)]
          obtain ⟨d, hd⟩ : ∃ d, lenOf alnU (s.data.toList.drop p) = d := ⟨_, rfl⟩
          have hd1 : p + d ≤ s.size := by
            have h1 := lenOf_le alnU (s.data.toList.drop p)
            have hl0 : s.data.toList.length = s.size := Array.length_toList
            rw [hd, List.length_drop, hl0] at h1
            omega
          have Hd := Lib.hid hd
          have HE0 := Lib.hid hE0
          clear hd hE0 hhd
          go_upto_block 2 with fail
          go_cut [8] from 12 to 146 (fun e8 wx => e8 = .int .i64 ((p + d : Nat) : Int) ∧ wx = wr)
          case first =>
            go_wp2_with fail
            go_loop [8] (fun e => ∃ k : Nat, Run alnU s p k ∧ e = .int .i64 k) (fun e => s.size - (intOf e).toNat)
            case atStart => exact ⟨p, Run.start (by omega), rfl⟩
            case round =>
              obtain ⟨k, hk, rfl⟩ := hrel
              have hk1 := hk.1
              have hk2 := hk.2.1
              by_cases hlt2 : k < s.size
              · rcases Bool.eq_false_or_eq_true (letB (s[k].toNat : Int)) with hl2 | hl2
                · go_wp2_with (first | (go_at_call 19; refine (rlet_any _ _).mono ?_; rintro e w' ⟨rfl, rfl⟩) | (go_at_call 20; refine (rdig_any _ _).mono ?_; rintro e w' ⟨rfl, rfl⟩))
                  go_round
                  case rel => exact ⟨k + 1, hk.step hlt2 (by simp [alnU, letU, hl2]), by go_num⟩
                  case measure => simp [intOf]; omega
                · rcases Bool.eq_false_or_eq_true (digB (s[k].toNat : Int)) with hd2 | hd2
                  · go_wp2_with (first | (go_at_call 19; refine (rlet_any _ _).mono ?_; rintro e w' ⟨rfl, rfl⟩) | (go_at_call 20; refine (rdig_any _ _).mono ?_; rintro e w' ⟨rfl, rfl⟩))
                    go_round
                    case rel => exact ⟨k + 1, hk.step hlt2 (by simp [alnU, digU, hd2]), by go_num⟩
                    case measure => simp [intOf]; omega
                  · have hn2 := hk.len (fun h => by rw [getD_eq s k h]; simp [alnU, letU, digU, hl2, hd2])
                    rw [Hd.out] at hn2
                    have Hkd := Lib.hid (show p + d = k by omega)
                    clear hn2
                    go_wp2_with (first | (go_at_call 19; refine (rlet_any _ _).mono ?_; rintro e w' ⟨rfl, rfl⟩) | (go_at_call 20; refine (rdig_any _ _).mono ?_; rintro e w' ⟨rfl, rfl⟩))
                    go_meet
                    case rel => exact ⟨by rw [Hkd.out], rfl⟩
              · have hn2 := hk.len (fun h => absurd h hlt2)
                rw [Hd.out] at hn2
                have Hkd := Lib.hid (show p + d = k by omega)
                clear hn2
                go_wp2_with fail
                go_meet
                case rel => exact ⟨by rw [Hkd.out], rfl⟩
          case rest =>
            obtain ⟨rfl, hwc⟩ := hcut
            have hwc2 := hwc.symm
            subst hwc2
            clear hwc
            obtain ⟨T, hT⟩ : ∃ T, s.extract p (p + d) = T := ⟨_, rfl⟩
            have hTs : T.size = d := by rw [← hT]; simp; omega
            have hTl : T.toList = (s.data.toList.drop p).take d := by
              rw [← hT, Lib.extract_toList, show p + d - p = d from by omega]
            have HTl := Lib.hid hTl
            clear hTl
            have hb0 : Below wr.heap.size wr (wr.alloc (.cells #[.int .i64 1, .string T, .int .i64 0, .int .i64 p] 33)).drew := (below_new (Below.refl _ wr) (Nat.le_refl _) _).drew
            have hsz0 : (wr.alloc (.cells #[.int .i64 1, .string T, .int .i64 0, .int .i64 p] 33)).drew.heap.size = wr.heap.size + 1 := by simp
            by_cases h12 : 12 < d
            · have Hfin := Lib.hid (lexR_err HR.out (go_err hlt hgU (e := 3) (by rw [HE0.out]; unfold nameE; rw [Hd.out, if_pos h12]) hf Hgo.out))
              go_upto_block 4 with fail
              go_wp2_with (go_at_call 19; refine (rlet_any _ _).mono ?_; rintro e w' ⟨rfl, rfl⟩)
              go_region
              go_wp2_with fail
              refine (rres_any T _).mono ?_
              rintro e w2 ⟨rfl, hb2⟩
              obtain ⟨hc, hfz⟩ := bcell hb2
              have hz : wr.heap.size < w2.heap.size := by have := hb2.size; rw [hsz0] at this; omega
              have hb3 : Below w.heap.size w w2 := (hbw.trans (hb0.mono hbw.size)).trans (hb2.mono (by rw [hsz0]; have := hbw.size; omega))
              clear hb2 hb0 hsz0
              rcases Bool.eq_false_or_eq_true (resB T.toList) with hr | hr
              · go_wp2_with fail
                go_ret3
                exact RLexPost.bad Hfin.out (hb3.setCell hbw.size _)
              · go_wp2_with fail
                go_ret3
                exact RLexPost.bad Hfin.out hb3
            · obtain ⟨kd, hkd⟩ : ∃ kd : Int, (if resB T.toList then 4 else 1) = kd := ⟨_, rfl⟩
              have hEok : wordE (s.data.toList.drop p) = .ok (kd, d, 0) := by
                rw [HE0.out]; unfold nameE; rw [Hd.out, if_neg h12, ← HTl.out, hkd]
              have hdp : 1 ≤ d := (wordE_ok (by have hl0 : s.data.toList.length = s.size := Array.length_toList; rw [List.length_drop, hl0]; omega) hEok).1
              have Hst := Lib.hid (go_word hlt hgU hEok hf hdp Hgo.out)
              have Hkd := Lib.hid hkd
              clear hEok hkd
              go_upto_block 4 with fail
              go_cut [8] from 12 to 146 (fun e8 wx => e8 = .int .i64 ((p + d : Nat) : Int) ∧ TokAt wr wx wr.heap.size kd T 0 p)
              case first =>
                go_wp2_with (go_at_call 19; refine (rlet_any _ _).mono ?_; rintro e w' ⟨rfl, rfl⟩)
                go_region
                go_wp2_with fail
                refine (rres_any T _).mono ?_
                rintro e w2 ⟨rfl, hb2⟩
                obtain ⟨hc, hfz⟩ := bcell hb2
                have hz : wr.heap.size < w2.heap.size := by have := hb2.size; rw [hsz0] at this; omega
                have hb3 : Below wr.heap.size wr w2 := hb0.trans (hb2.mono (by rw [hsz0]; omega))
                have hc0 := hc wr.heap.size 0 (by rw [hsz0]; omega)
                have hc1 := hc wr.heap.size 1 (by rw [hsz0]; omega)
                have hc2 := hc wr.heap.size 2 (by rw [hsz0]; omega)
                have hc3 := hc wr.heap.size 3 (by rw [hsz0]; omega)
                simp at hc0 hc1 hc2 hc3
                clear hb2 hb0 hsz0
                rcases Bool.eq_false_or_eq_true (resB T.toList) with hr | hr
                · go_wp2_with fail
                  go_meet
                  case rel =>
                    have hk := Hkd.out
                    rw [if_pos hr] at hk
                    refine ⟨by go_num, hb3.setCell (Nat.le_refl _) _, by simpa using hz, ?_, ?_, ?_, ?_⟩
                    · rw [← hk]; go_simp
                    · go_simp
                    · go_simp
                    · go_simp
                · go_wp2_with fail
                  go_meet
                  case rel =>
                    have hk := Hkd.out
                    rw [if_neg (by rw [hr]; decide)] at hk
                    refine ⟨by go_num, hb3, hz, ?_, hc1, hc2, hc3⟩
                    rw [hc0, hk]
              case rest =>
                obtain ⟨rfl, hb4, hg4, t0, t1, t2, t3⟩ := hcut
                go_wp2_with (at_builtin; refine wpList_append_own _ rfl (.tmp 142) (.tmp 144) _ rfl w.heap.size 33 i0 _ 4 40 Try.underlying27 hi hz0 hz1 hz2 rfl (by decide) (.slice A n c) n _ rfl (own_later hown (below_new hb4 (Nat.le_refl _) _)) ⟨wc.heap.size, 0, none⟩ 1 1 [.int .i64 kd, .string T, .int .i64 0, .int .i64 p] rfl rfl ?c1 ?c2 ?c3 ?c4 ?c5 ?_)
                case c1 => exact cells_new _ _ _
                case c2 =>
                  intro u hu
                  simp at hu
                  rcases hu with rfl | rfl | rfl | rfl <;> rfl
                case c3 => unfold maxLen; omega
                case c4 => omega
                case c5 => have := hb4.size; have := hbw.size; simp; omega
                intro v' w3 hown' hgrow _
                obtain ⟨g, cap, hv⟩ := own_form hown' (by omega)
                have Hv := Lib.hid hv
                have Hl : Hid (n + 1 = (acc ++ [(⟨kd, T, 0, p⟩ : Tok)]).length) := by
                  show n + 1 = _
                  rw [List.length_append, ← Hn.out]
                  rfl
                have hown2 : w3.ownsRow w.heap.size 33 4 (.slice (some ⟨g, 0, none⟩) (n + 1) cap) (n + 1) (tcells (acc ++ [(⟨kd, T, 0, p⟩ : Tok)])) := by
                  rw [tcells_snoc, ← hv]
                  exact hown'
                have hB3 : Below w.heap.size w w3 := (hbw.trans ((below_new hb4 (Nat.le_refl _) _).mono hbw.size)).grown hgrow (by have := hb4.size; have := hbw.size; simp; omega) (fun b hb => (hown.lt b hb).1)
                clear hv hown' hgrow hown
                go_wp2_with fail
                go_roundw
                case rel =>
                  obtain ⟨f', hf', hgo'⟩ := Hst.out
                  exact ⟨p + d, f', acc ++ [(⟨kd, T, 0, p⟩ : Tok)], some ⟨g, 0, none⟩, n + 1, cap, by omega, hf', by rw [← hT]; exact hgo', Hl, by omega, by go_num, Hv.out, hown2, hB3⟩
                case measure => simp [intOf]; omega
        · rcases Bool.eq_false_or_eq_true (digB (s[p].toNat : Int)) with hdg | hdg
          · -- a number
            have hE0 : wordE (s.data.toList.drop p) = numE (s.data.toList.drop p) := by
              unfold wordE
              rw [hhd, if_neg (show ¬ letU s[p] = true by show ¬ letB _ = true; rw [hl]; decide), if_pos (show digU s[p] = true from hdg)]
            obtain ⟨d, hd⟩ : ∃ d, lenOf alnU (s.data.toList.drop p) = d := ⟨_, rfl⟩
            have hd1 : p + d ≤ s.size := by
              have h1 := lenOf_le alnU (s.data.toList.drop p)
              have hl0 : s.data.toList.length = s.size := Array.length_toList
              rw [hd, List.length_drop, hl0] at h1
              omega
            obtain ⟨T, hT⟩ : ∃ T, s.extract p (p + d) = T := ⟨_, rfl⟩
            have hTs : T.size = d := by rw [← hT]; simp; omega
            have hTl : (s.data.toList.drop p).take d = T.data.toList := by
              rw [← hT, Lib.extract_data, show p + d - p = d from by omega]
            have hnum := numE_run (s.data.toList.drop p) T.data.toList d (by rw [hhd]; exact hdg) hd hTl
            rw [hhd] at hnum
            have h48 : s[p] = 48 ↔ ((s[p].toNat : Int) == 48) = true := by
              rw [beq_iff_eq]
              exact (u8_int s[p] 48).symm
            simp only [h48] at hnum
            have Hd := Lib.hid hd
            have HE0 := Lib.hid hE0
            have Hnum := Lib.hid hnum
            clear hd hE0 hhd hTl hnum h48
            go_upto_block 2 with fail
            go_cut [8] from 12 to 146 (fun e8 wx => e8 = .int .i64 ((p + d : Nat) : Int) ∧ wx = wr)
            case first =>
              go_wp2_with fail
              go_loop [8] (fun e => ∃ k : Nat, Run alnU s p k ∧ e = .int .i64 k) (fun e => s.size - (intOf e).toNat)
              case atStart => exact ⟨p, Run.start (by omega), rfl⟩
              case round =>
                obtain ⟨k, hk, rfl⟩ := hrel
                have hk1 := hk.1
                have hk2 := hk.2.1
                by_cases hlt2 : k < s.size
                · rcases Bool.eq_false_or_eq_true (letB (s[k].toNat : Int)) with hl2 | hl2
                  · go_wp2_with (first | (go_at_call 19; refine (rlet_any _ _).mono ?_; rintro e w' ⟨rfl, rfl⟩) | (go_at_call 20; refine (rdig_any _ _).mono ?_; rintro e w' ⟨rfl, rfl⟩))
                    go_round
                    case rel => exact ⟨k + 1, hk.step hlt2 (by simp [alnU, letU, hl2]), by go_num⟩
                    case measure => simp [intOf]; omega
                  · rcases Bool.eq_false_or_eq_true (digB (s[k].toNat : Int)) with hd2 | hd2
                    · go_wp2_with (first | (go_at_call 19; refine (rlet_any _ _).mono ?_; rintro e w' ⟨rfl, rfl⟩) | (go_at_call 20; refine (rdig_any _ _).mono ?_; rintro e w' ⟨rfl, rfl⟩))
                      go_round
                      case rel => exact ⟨k + 1, hk.step hlt2 (by simp [alnU, digU, hd2]), by go_num⟩
                      case measure => simp [intOf]; omega
                    · have hn2 := hk.len (fun h => by rw [getD_eq s k h]; simp [alnU, letU, digU, hl2, hd2])
                      rw [Hd.out] at hn2
                      have Hkd := Lib.hid (show p + d = k by omega)
                      clear hn2
                      go_wp2_with (first | (go_at_call 19; refine (rlet_any _ _).mono ?_; rintro e w' ⟨rfl, rfl⟩) | (go_at_call 20; refine (rdig_any _ _).mono ?_; rintro e w' ⟨rfl, rfl⟩))
                      go_meet
                      case rel => exact ⟨by rw [Hkd.out], rfl⟩
                · have hn2 := hk.len (fun h => absurd h hlt2)
                  rw [Hd.out] at hn2
                  have Hkd := Lib.hid (show p + d = k by omega)
                  clear hn2
                  go_wp2_with fail
                  go_meet
                  case rel => exact ⟨by rw [Hkd.out], rfl⟩
            case rest =>
              obtain ⟨rfl, hwc⟩ := hcut
              have hwc2 := hwc.symm
              subst hwc2
              clear hwc
              go_upto_block 4 with fail
              by_cases h10d : 10 < d
              · have Hfin := Lib.hid (lexR_err HR.out (go_err hlt hgU (e := 3) (by rw [HE0.out, Hnum.out, if_pos (.inl h10d)]) hf Hgo.out))
                go_wp2_with (first | (go_at_call 19; refine (rlet_any _ _).mono ?_; rintro e w' ⟨rfl, rfl⟩) | (go_at_call 20; refine (rdig_any _ _).mono ?_; rintro e w' ⟨rfl, rfl⟩))
                go_region
                go_wp2_with fail
                go_ret3
                exact RLexPost.bad Hfin.out (below_new hbw (by omega) _).drew
              · by_cases hz48 : 1 < d ∧ ((s[p].toNat : Int) == 48) = true
                · obtain ⟨hz1, hz2⟩ := hz48
                  have Hfin := Lib.hid (lexR_err HR.out (go_err hlt hgU (e := 3) (by rw [HE0.out, Hnum.out, if_pos (.inr (.inl ⟨hz1, hz2⟩))]) hf Hgo.out))
                  go_wp2_with (first | (go_at_call 19; refine (rlet_any _ _).mono ?_; rintro e w' ⟨rfl, rfl⟩) | (go_at_call 20; refine (rdig_any _ _).mono ?_; rintro e w' ⟨rfl, rfl⟩))
                  go_region
                  go_wp2_with fail
                  go_ret3
                  exact RLexPost.bad Hfin.out (below_new hbw (by omega) _).drew
                · have hz : d ≤ 1 ∨ (1 < d ∧ ((s[p].toNat : Int) == 48) = false) := by
                    rcases Bool.eq_false_or_eq_true ((s[p].toNat : Int) == 48) with h | h
                    · exact .inl (by have : ¬ 1 < d := fun hx => hz48 ⟨hx, h⟩; omega)
                    · by_cases h1 : 1 < d
                      · exact .inr ⟨h1, h⟩
                      · exact .inl (by omega)
                  by_cases hbad : lenOf digU T.data.toList < d ∨ 2147483647 < val T.data.toList
                  · have Hfin := Lib.hid (lexR_err HR.out (go_err hlt hgU (e := 3) (by rw [HE0.out, Hnum.out, if_pos (.inr (.inr hbad))]) hf Hgo.out))
                    have Hbad := Lib.hid hbad
                    clear hbad hz48
                    rcases hz with hz | ⟨hz, hz'⟩
                    all_goals
                      go_wp2_with (first | (go_at_call 19; refine (rlet_any _ _).mono ?_; rintro e w' ⟨rfl, rfl⟩) | (go_at_call 20; refine (rdig_any _ _).mono ?_; rintro e w' ⟨rfl, rfl⟩))
                      go_region
                      go_wp2_with fail
                      go_loopw [10] (fun i wx => ∃ (k m : Nat) (v : Int), Run digU T 0 k ∧ Hid ((vl T 0 k : Int) = v) ∧ 0 ≤ v ∧ v < 10000000000 ∧ i = .int .i64 k ∧ wx = (wr.alloc (.cells #[.int .i64 2, .string T, .int .i64 v, .int .i64 p] 33)).drewN m) (fun i _ => d - (intOf i).toNat)
                      case atStart => exact ⟨0, 1, 0, Run.start (by omega), (show ((vl T 0 0 : Nat) : Int) = 0 by rw [vl_start]; rfl), by omega, by omega, rfl, rfl⟩
                      case round =>
                        obtain ⟨k, m, v, hk, hv, hv0, hv1, rfl, rfl⟩ := hrel
                        have hk2 := hk.2.1
                        by_cases hkd : k < d
                        · have hkT : k < T.size := by omega
                          rcases Bool.eq_false_or_eq_true (digB (T[k].toNat : Int)) with hdk | hdk
                          · have hb48 : 48 ≤ (T[k].toNat : Int) ∧ (T[k].toNat : Int) ≤ 57 := by simpa [digB] using hdk
                            obtain ⟨hb1, hb2⟩ := hb48
                            have hst := vl_step T 0 k (by omega) hkT
                            have hrun := hk.step hkT (show digU T[k] = true from hdk)
                            have hfew := hrun.few (by omega)
                            have Hst := Lib.hid (show ((vl T 0 (k + 1) : Nat) : Int) = 10 * v + ((T[k].toNat : Int) - 48) by rw [hst]; have := hv.out; omega)
                            have hnew0 : 0 ≤ 10 * v + ((T[k].toNat : Int) - 48) := by omega
                            have hnew1 : 10 * v + ((T[k].toNat : Int) - 48) < 10000000000 := by rw [← Hst.out]; omega
                            clear hst hfew
                            go_wp2_with (first | (go_at_call 19; refine (rlet_any _ _).mono ?_; rintro e w' ⟨rfl, rfl⟩) | (go_at_call 20; refine (rdig_any _ _).mono ?_; rintro e w' ⟨rfl, rfl⟩))
                            go_region
                            go_wp2_with fail
                            go_roundw
                            case rel => exact ⟨k + 1, _, _, hrun, Hst.out, hnew0, hnew1, by go_num, set_num _ _ _ _ _ _ _ _⟩
                            case measure => simp [intOf]; omega
                          · go_wp2_with (first | (go_at_call 19; refine (rlet_any _ _).mono ?_; rintro e w' ⟨rfl, rfl⟩) | (go_at_call 20; refine (rdig_any _ _).mono ?_; rintro e w' ⟨rfl, rfl⟩))
                            go_ret3
                            exact RLexPost.bad Hfin.out (below_drewN (below_new hbw (by omega) _) _)
                        · have hkd2 : k = d := by omega
                          have hlast : 2147483647 < v := by
                            have h1 : lenOf digU T.data.toList = d := by rw [← hkd2]; exact hk.whole (by omega)
                            have h2 := Hbad.out.resolve_left (by omega)
                            have h3 := hk.val_whole (by omega)
                            have h4 := hv.out
                            omega
                          clear hkd2
                          go_wp2_with fail
                          go_ret3
                          exact RLexPost.bad Hfin.out (below_drewN (below_new hbw (by omega) _) _)
                  · have hlen : lenOf digU T.data.toList = d := by
                      have h1 := lenOf_le digU T.data.toList
                      have h2 : T.data.toList.length = d := by rw [← hTs]; exact Array.length_toList
                      omega
                    have hvb : ¬ 2147483647 < val T.data.toList := fun h => hbad (.inr h)
                    obtain ⟨vv, hvv⟩ : ∃ vv : Int, (val T.data.toList : Int) = vv := ⟨_, rfl⟩
                    have hEok : wordE (s.data.toList.drop p) = .ok (2, d, vv) := by
                      rw [HE0.out, Hnum.out, if_neg (fun h => h.elim h10d (fun h => h.elim hz48 hbad)), hvv]
                    have hdp : 1 ≤ d := (wordE_ok (by have hl0 : s.data.toList.length = s.size := Array.length_toList; rw [List.length_drop, hl0]; omega) hEok).1
                    have Hst := Lib.hid (go_word hlt hgU hEok hf hdp Hgo.out)
                    have Hvv := Lib.hid hvv
                    clear hEok hvv hbad hz48
                    go_cut [8] from 12 to 146 (fun e8 wx => e8 = .int .i64 ((p + d : Nat) : Int) ∧ TokAt wr wx wr.heap.size 2 T vv p)
                    case first =>
                      rcases hz with hz | ⟨hz, hz'⟩
                      all_goals
                        go_wp2_with (first | (go_at_call 19; refine (rlet_any _ _).mono ?_; rintro e w' ⟨rfl, rfl⟩) | (go_at_call 20; refine (rdig_any _ _).mono ?_; rintro e w' ⟨rfl, rfl⟩))
                        go_region
                        go_wp2_with fail
                        go_loopw [10] (fun i wx => ∃ (k m : Nat) (v : Int), Run digU T 0 k ∧ Hid ((vl T 0 k : Int) = v) ∧ 0 ≤ v ∧ v < 10000000000 ∧ i = .int .i64 k ∧ wx = (wr.alloc (.cells #[.int .i64 2, .string T, .int .i64 v, .int .i64 p] 33)).drewN m) (fun i _ => d - (intOf i).toNat)
                        case atStart => exact ⟨0, 1, 0, Run.start (by omega), (show ((vl T 0 0 : Nat) : Int) = 0 by rw [vl_start]; rfl), by omega, by omega, rfl, rfl⟩
                        case round =>
                          obtain ⟨k, m, v, hk, hv, hv0, hv1, rfl, rfl⟩ := hrel
                          have hk2 := hk.2.1
                          by_cases hkd : k < d
                          · have hkT : k < T.size := by omega
                            rcases Bool.eq_false_or_eq_true (digB (T[k].toNat : Int)) with hdk | hdk
                            · have hb48 : 48 ≤ (T[k].toNat : Int) ∧ (T[k].toNat : Int) ≤ 57 := by simpa [digB] using hdk
                              obtain ⟨hb1, hb2⟩ := hb48
                              have hst := vl_step T 0 k (by omega) hkT
                              have hrun := hk.step hkT (show digU T[k] = true from hdk)
                              have hfew := hrun.few (by omega)
                              have Hst := Lib.hid (show ((vl T 0 (k + 1) : Nat) : Int) = 10 * v + ((T[k].toNat : Int) - 48) by rw [hst]; have := hv.out; omega)
                              have hnew0 : 0 ≤ 10 * v + ((T[k].toNat : Int) - 48) := by omega
                              have hnew1 : 10 * v + ((T[k].toNat : Int) - 48) < 10000000000 := by rw [← Hst.out]; omega
                              clear hst hfew
                              go_wp2_with (first | (go_at_call 19; refine (rlet_any _ _).mono ?_; rintro e w' ⟨rfl, rfl⟩) | (go_at_call 20; refine (rdig_any _ _).mono ?_; rintro e w' ⟨rfl, rfl⟩))
                              go_region
                              go_wp2_with fail
                              go_roundw
                              case rel => exact ⟨k + 1, _, _, hrun, Hst.out, hnew0, hnew1, by go_num, set_num _ _ _ _ _ _ _ _⟩
                              case measure => simp [intOf]; omega
                            · exact absurd (hk.part hkT hdk hlen) (by omega)
                          · have hkd2 : k = d := by omega
                            have hveq : v = vv := by
                              have h3 := hk.val_whole (by omega)
                              rw [← hv.out, ← Hvv.out, h3]
                            have Hveq := Lib.hid hveq
                            have hlast : v ≤ 2147483647 := by
                              have h1 := Hvv.out
                              have h2 := Hveq.out
                              omega
                            clear hkd2 hveq
                            go_wp2_with fail
                            go_meet
                            case rel =>
                              refine ⟨by go_num, below_drewN (below_new (Below.refl _ _) (Nat.le_refl _) _) _, by simp, ?_, ?_, ?_, ?_⟩
                              · go_simp
                              · go_simp
                              · rw [← Hveq.out]; go_simp
                              · go_simp
                    case rest =>
                      obtain ⟨rfl, hb4, hg4, t0, t1, t2, t3⟩ := hcut
                      go_wp2_with (at_builtin; refine wpList_append_own _ rfl (.tmp 142) (.tmp 144) _ rfl w.heap.size 33 i0 _ 4 40 Try.underlying27 hi hz0 hz1 hz2 rfl (by decide) (.slice A n c) n _ rfl (own_later hown (below_new hb4 (Nat.le_refl _) _)) ⟨wc.heap.size, 0, none⟩ 1 1 [.int .i64 2, .string T, .int .i64 vv, .int .i64 p] rfl rfl ?c1 ?c2 ?c3 ?c4 ?c5 ?_)
                      case c1 => exact cells_new _ _ _
                      case c2 =>
                        intro u hu
                        simp at hu
                        rcases hu with rfl | rfl | rfl | rfl <;> rfl
                      case c3 => unfold maxLen; omega
                      case c4 => omega
                      case c5 => have := hb4.size; have := hbw.size; simp; omega
                      intro v' w3 hown' hgrow _
                      obtain ⟨g, cap, hv⟩ := own_form hown' (by omega)
                      have Hv := Lib.hid hv
                      have Hl : Hid (n + 1 = (acc ++ [(⟨2, T, vv, p⟩ : Tok)]).length) := by
                        show n + 1 = _
                        rw [List.length_append, ← Hn.out]
                        rfl
                      have hown2 : w3.ownsRow w.heap.size 33 4 (.slice (some ⟨g, 0, none⟩) (n + 1) cap) (n + 1) (tcells (acc ++ [(⟨2, T, vv, p⟩ : Tok)])) := by
                        rw [tcells_snoc, ← hv]
                        exact hown'
                      have hB3 : Below w.heap.size w w3 := (hbw.trans ((below_new hb4 (Nat.le_refl _) _).mono hbw.size)).grown hgrow (by have := hb4.size; have := hbw.size; simp; omega) (fun b hb => (hown.lt b hb).1)
                      clear hv hown' hgrow hown
                      go_wp2_with fail
                      go_roundw
                      case rel =>
                        obtain ⟨f', hf', hgo'⟩ := Hst.out
                        exact ⟨p + d, f', acc ++ [(⟨2, T, vv, p⟩ : Tok)], some ⟨g, 0, none⟩, n + 1, cap, by omega, hf', by rw [← hT]; exact hgo', Hl, by omega, by go_num, Hv.out, hown2, hB3⟩
                      case measure => simp [intOf]; omega
          · -- a sign, or none
            have hE0 : wordE (s.data.toList.drop p) = sgnE (s.data.toList.drop p) := by
              unfold wordE
              rw [hhd, if_neg (show ¬ letU s[p] = true by show ¬ letB _ = true; rw [hl]; decide), if_neg (show ¬ digU s[p] = true by show ¬ digB _ = true; rw [hdg]; decide)]
            obtain ⟨d, hd⟩ : ∃ d, sgnLen (s.data.toList.drop p) = d := ⟨_, rfl⟩
            have hd1 : p + d ≤ s.size := by
              have h1 := sgnLen_le (s.data.toList.drop p)
              have hl0 : s.data.toList.length = s.size := Array.length_toList
              rw [hd, List.length_drop, hl0] at h1
              omega
            have Hd := Lib.hid hd
            have HE0 := Lib.hid hE0
            clear hd hE0 hhd
            go_upto_block 2 with fail
            go_cut [8] from 12 to 146 (fun e8 wx => e8 = .int .i64 p ∧ wx = wr)
            case first =>
              go_wp2_with fail
              go_loop [8] (fun e => e = .int .i64 p) (fun _ => 0)
              case atStart => rfl
              case round =>
                subst hrel
                go_wp2_with (first | (go_at_call 19; refine (rlet_any _ _).mono ?_; rintro e w' ⟨rfl, rfl⟩) | (go_at_call 20; refine (rdig_any _ _).mono ?_; rintro e w' ⟨rfl, rfl⟩))
                go_meet
                case rel => exact ⟨rfl, rfl⟩
            case rest =>
              obtain ⟨rfl, hwc⟩ := hcut
              have hwc2 := hwc.symm
              subst hwc2
              clear hwc
              go_upto_block 4 with fail
              have hsz0 : (wr.alloc (.cells #[.int .i64 0, .string ⟨#[]⟩, .int .i64 0, .int .i64 p] 33)).heap.size = wr.heap.size + 1 := by simp
              have hb0 : Below wr.heap.size wr (wr.alloc (.cells #[.int .i64 0, .string ⟨#[]⟩, .int .i64 0, .int .i64 p] 33)) := below_new (Below.refl _ wr) (Nat.le_refl _) _
              by_cases hd0 : d = 0
              · have Hfin := Lib.hid (lexR_err HR.out (go_err hlt hgU (e := 2) (by rw [HE0.out]; unfold sgnE; rw [Hd.out, if_pos hd0]) hf Hgo.out))
                subst hd0
                go_wp2_with (first | (go_at_call 19; refine (rlet_any _ _).mono ?_; rintro e w' ⟨rfl, rfl⟩) | (go_at_call 20; refine (rdig_any _ _).mono ?_; rintro e w' ⟨rfl, rfl⟩))
                refine (rsign_at s p _ (by omega) hlt Hd.out).mono ?_
                rintro e w2 ⟨rfl, hb2⟩
                go_wp2_with fail
                go_ret3
                exact RLexPost.bad Hfin.out ((hbw.trans (hb0.mono hbw.size)).trans (hb2.mono (by rw [hsz0]; have := hbw.size; omega)))
              · have hEok : wordE (s.data.toList.drop p) = .ok (3, d, 0) := by rw [HE0.out]; unfold sgnE; rw [Hd.out, if_neg hd0]
                have hdp : 1 ≤ d := by omega
                have hnz : ((d : Int) == 0) = false := by rw [beq_eq_false_iff_ne]; omega
                obtain ⟨T, hT⟩ : ∃ T, s.extract p (p + d) = T := ⟨_, rfl⟩
                have Hst := Lib.hid (go_word hlt hgU hEok hf hdp Hgo.out)
                clear hEok hd0
                go_cut [8] from 12 to 146 (fun e8 wx => e8 = .int .i64 ((p + d : Nat) : Int) ∧ TokAt wr wx wr.heap.size 3 T 0 p)
                case first =>
                  go_wp2_with (first | (go_at_call 19; refine (rlet_any _ _).mono ?_; rintro e w' ⟨rfl, rfl⟩) | (go_at_call 20; refine (rdig_any _ _).mono ?_; rintro e w' ⟨rfl, rfl⟩))
                  refine (rsign_at s p _ (by omega) hlt Hd.out).mono ?_
                  rintro e w2 ⟨rfl, hb2⟩
                  obtain ⟨hc, hfz⟩ := bcell hb2
                  have hz : wr.heap.size < w2.heap.size := by have := hb2.size; rw [hsz0] at this; omega
                  have hb3 : Below wr.heap.size wr w2 := hb0.trans (hb2.mono (by rw [hsz0]; omega))
                  have hc0 := hc wr.heap.size 0 (by rw [hsz0]; omega)
                  have hc1 := hc wr.heap.size 1 (by rw [hsz0]; omega)
                  have hc2 := hc wr.heap.size 2 (by rw [hsz0]; omega)
                  have hc3 := hc wr.heap.size 3 (by rw [hsz0]; omega)
                  have hf0 := hfz wr.heap.size 0 (by rw [hsz0]; omega)
                  have hf1 := hfz wr.heap.size 1 (by rw [hsz0]; omega)
                  simp at hc0 hc1 hc2 hc3
                  rw [World.frozen?_alloc_at _ _ _ _ rfl] at hf0 hf1
                  clear hb2 hb0 hsz0 hc hfz
                  go_wp2_with fail
                  go_region
                  go_wp2_with fail
                  go_meet
                  case rel =>
                    refine ⟨by go_num, ((hb3.setCell (Nat.le_refl _) _).setCell (Nat.le_refl _) _).drew, by simpa using hz, ?_, ?_, ?_, ?_⟩
                    · go_simp
                    · go_simp
                    · go_simp
                    · go_simp
                case rest =>
                  obtain ⟨rfl, hb4, hg4, t0, t1, t2, t3⟩ := hcut
                  go_wp2_with (at_builtin; refine wpList_append_own _ rfl (.tmp 142) (.tmp 144) _ rfl w.heap.size 33 i0 _ 4 40 Try.underlying27 hi hz0 hz1 hz2 rfl (by decide) (.slice A n c) n _ rfl (own_later hown (below_new hb4 (Nat.le_refl _) _)) ⟨wc.heap.size, 0, none⟩ 1 1 [.int .i64 3, .string T, .int .i64 0, .int .i64 p] rfl rfl ?c1 ?c2 ?c3 ?c4 ?c5 ?_)
                  case c1 => exact cells_new _ _ _
                  case c2 =>
                    intro u hu
                    simp at hu
                    rcases hu with rfl | rfl | rfl | rfl <;> rfl
                  case c3 => unfold maxLen; omega
                  case c4 => omega
                  case c5 => have := hb4.size; have := hbw.size; simp; omega
                  intro v' w3 hown' hgrow _
                  obtain ⟨g, cap, hv⟩ := own_form hown' (by omega)
                  have Hv := Lib.hid hv
                  have Hl : Hid (n + 1 = (acc ++ [(⟨3, T, 0, p⟩ : Tok)]).length) := by
                    show n + 1 = _
                    rw [List.length_append, ← Hn.out]
                    rfl
                  have hown2 : w3.ownsRow w.heap.size 33 4 (.slice (some ⟨g, 0, none⟩) (n + 1) cap) (n + 1) (tcells (acc ++ [(⟨3, T, 0, p⟩ : Tok)])) := by
                    rw [tcells_snoc, ← hv]
                    exact hown'
                  have hB3 : Below w.heap.size w w3 := (hbw.trans ((below_new hb4 (Nat.le_refl _) _).mono hbw.size)).grown hgrow (by have := hb4.size; have := hbw.size; simp; omega) (fun b hb => (hown.lt b hb).1)
                  clear hv hown' hgrow hown
                  go_wp2_with fail
                  go_roundw
                  case rel =>
                    obtain ⟨f', hf', hgo'⟩ := Hst.out
                    exact ⟨p + d, f', acc ++ [(⟨3, T, 0, p⟩ : Tok)], some ⟨g, 0, none⟩, n + 1, cap, by omega, hf', by rw [← hT]; exact hgo', Hl, by omega, by go_num, Hv.out, hown2, hB3⟩
                  case measure => simp [intOf]; omega
    · have hend := go_end (by omega) Hgo.out
      by_cases hn2 : n ≤ 2000
      · have Hfin := Lib.hid (lexR_ok HR.out hend (by rw [← Hn.out]; exact hn2))
        clear hend
        go_wp2_with fail
        go_ret3
        exact RLexPost.good Hfin.out Hn.out hown hbw
      · have Hfin := Lib.hid (lexR_long HR.out hend (by rw [← Hn.out]; omega))
        clear hend
        go_wp2_with fail
        go_ret3
        exact RLexPost.bad Hfin.out hbw
end Go.Proofs.Ytlnfilefpehnbaa
