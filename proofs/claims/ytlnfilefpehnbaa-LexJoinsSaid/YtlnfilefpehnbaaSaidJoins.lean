/-
  LexJoins: words side by side, with a blank or a line end behind each, are read as they are; for every list of texts.
  Conditions: none.
-/
import Derived.Test.YtlnfilefpehnbaaRows
import Derived.Test.YtlnfilefpehnbaaReadsRef
import Derived.Test.YtlnfilefpehnbaaPlainJoin
import Derived.WalkKit
import Derived.ProofKit
import Derived.OpenShut
import Derived.ShutString
import Derived.SliceStrings
import Derived.ChangeOld
import Derived.Below
import Derived.Lib.SmallJoins
import Derived.Deep.QuietTactic
import Derived.BigQuiet
import Derived.RegionTactic
import Derived.Deep.RegionWith
import Derived.Deep.DeepCutAuto
namespace Go.Proofs.Ytlnfilefpehnbaa
open Go.ChangeShapes Go.WideShapes Go.ChangeAt Go.RowKit
open Go.ChangeMaps (open_string shut_string)

/-- A row of texts that came in. -/
def StrRow (w : World) (a : Option Addr) (len : Nat) : Prop :=
  len = 0 ∨ ∃ b off, a = some ⟨b, off, none⟩ ∧ b < w.heap.size ∧ ∀ k, k < len → ∃ s : ByteArray, w.cell? ⟨b, off + k, none⟩ = some (.string s) ∧ s.size ≤ maxLen
theorem cell_lt {w : World} {b o : Nat} {v : Value} (h : w.cell? ⟨b, o, none⟩ = some v) : b < w.heap.size := by
  rcases Nat.lt_or_ge b w.heap.size with h1 | h1
  · exact h1
  · have h2 : w.heap[b]? = none := Array.getElem?_eq_none h1
    simp [World.cell?, h2] at h
theorem strs_of {H : Type} {enc : TypeId × Value → H} {w : World} {base : Nat} {spare : Nat → Bool} {held : Bool} {a : Option Addr} {len cap : Nat} {d : DataW H} {p : List MemPlace}
    (h : DataW.Trod enc Try.prog w base spare held 35 (.slice a len cap) d p) : StrRow w a len := by
  obtain ⟨fuel, hf⟩ := h
  rcases open_strings Try.underlying35 Try.underlying9 (by kernel_rfl) hf with ⟨hcs, _⟩ | ⟨x, l, c, ss, hcs, _, hl, _, hz, _, hcell, hws⟩
  · simp [Value.cells] at hcs
    exact .inl hcs.2.1
  · simp [Value.cells] at hcs
    obtain ⟨rfl, rfl, rfl⟩ := hcs
    by_cases h0 : len = 0
    · exact .inl h0
    · right
      obtain ⟨b, off, spot⟩ := x
      have hlen : len ≤ ss.length := by rw [hz]; split <;> omega
      have hspot : spot = none := by simpa [Addr.add] using World.cell?_spot (hcell 0 (by omega))
      subst hspot
      have hadd : ∀ k, ((⟨b, off, none⟩ : Addr).add k) = ⟨b, off + k, none⟩ := fun k => by unfold Addr.add; split <;> simp_all
      refine ⟨b, off, rfl, ?_, fun k hk => ?_⟩
      · have := hcell 0 (by omega)
        rw [hadd] at this
        exact cell_lt this
      · have h1 := hcell k (by omega)
        rw [hadd] at h1
        refine ⟨_, h1, hws _ ?_⟩
        rw [List.getD_eq_getElem?_getD, List.getElem?_eq_getElem (by omega)]
        exact List.getElem_mem _
theorem below_of_drew {w w' : World} (h : Below w.drew.heap.size w.drew w') : Below w.heap.size w w' := ⟨h.os, h.tape, h.output, h.size, h.block⟩
theorem rlex_gen {s : ByteArray} {acc : List Tok} {q : Nat} {x : Int} (h : lexR s = (acc, q, x)) (w : World) (hs : s.size ≤ 2147483647) {n : Nat} (hn : acc.length = n) :
    Calls Try.prog 12 #[.string s] w fun e w' => ∃ A c, e = .returned (.tuple #[.slice A n c, .int .i64 q, .int .i64 x]) ∧ w'.ownsRow w.heap.size 33 4 (.slice A n c) n (tcells acc) ∧ Below w.heap.size w w' := by
  subst hn
  refine (rlex_any s w hs).mono fun e w' hp => ?_
  unfold RLexPost at hp
  rw [h] at hp
  exact hp

set_option maxRecDepth 100000 in
set_option maxHeartbeats 16000000 in
theorem lexJoins_walk (a : Option Addr) (len cap : Nat) (line : Bool) (w : World) (hrow : StrRow w a len) :
    Calls Try.prog 4 #[.slice a len cap, .bool line] w fun e w' => e = .returned (.bool true) ∧ Below w.heap.size w w' := by
  obtain ⟨i0, hi, hz0, hz1, hz2⟩ := info_parts info_rtok
  have Hrow := Lib.hid hrow
  clear hrow
  go_enter Try.func4, Try.ntmps4
  go_wp2_with fail
  go_loopw [5, 6, 7] (fun v5 v6 i wr => ∃ (k : Nat) (X : ByteArray) (ts : List Tok) (A : Option Addr) (n c : Nat), k ≤ len ∧ k ≤ 20 ∧ X.size ≤ 15 * k ∧ n ≤ k ∧ Jn X.data.toList ts ∧ Hid (ts.length = n) ∧
      v5 = .string X ∧ v6 = .slice A n c ∧ i = .int .i64 k ∧ wr.ownsRow w.heap.size 33 4 (.slice A n c) n (tcells ts) ∧ Below w.heap.size w wr)
    (fun _ _ i _ => 20 - (intOf i).toNat)
  case atStart => exact ⟨0, _, [], none, 0, 0, by omega, by omega, by decide, by omega, Jn.start, rfl, rfl, rfl, rfl, World.ownsRow_nil _ _ _ _, Below.refl _ _⟩
  case round =>
    obtain ⟨k, X, ts, A, n, c, hk, hk20, hX, hnk, hJ, hts, rfl, rfl, rfl, hown, hbw⟩ := hrel
    by_cases hlt : k < len ∧ k < 20
    · obtain ⟨hlt, hlt20⟩ := hlt
      rcases Hrow.out with h0 | ⟨b, off, rfl, hbl, hcells⟩
      · omega
      obtain ⟨S, hc0, hS⟩ := hcells k hlt
      have hcS : wr.cell? ⟨b, off + k, none⟩ = some (.string S) := (hbw.cell (p := ⟨b, off + k, none⟩) hbl).trans hc0
      clear hc0 hcells
      unfold maxLen at hS
      obtain ⟨l, hl⟩ : ∃ l : Nat, min (S.size : Int) 14 = (l : Int) := ⟨(min (S.size : Int) 14).toNat, by omega⟩
      have hlS : l ≤ S.size := by omega
      have hl14 : l ≤ 14 := by omega
      obtain ⟨V, hV⟩ : ∃ V, S.extract 0 l = V := ⟨_, rfl⟩
      have hVs : V.size ≤ 14 := by rw [← hV]; simp; omega
      obtain ⟨acc, q, x, hR⟩ : ∃ acc q x, lexR V = (acc, q, x) := ⟨_, _, _, rfl⟩
      obtain ⟨N, hN⟩ : ∃ N, acc.length = N := ⟨_, rfl⟩
      have HR := Lib.hid hR
      have HN := Lib.hid hN
      clear hR hN
      go_upto_region 6 with fail
      go_cut [8, 10] from 15 to 69 (fun e8 e10 wx => ∃ (A2 : Option Addr) (c2 : Nat), e8 = .slice A2 N c2 ∧ e10 = .int .i64 x ∧ wx.ownsRow wr.heap.size 33 4 (.slice A2 N c2) N (tcells acc) ∧ Below wr.heap.size wr wx)
      case first =>
        go_region_with (go_at_call 12; refine (rlex_gen HR.out _ (by omega) HN.out).mono ?_; rintro e w1 ⟨A2, c2, rfl, hown2, hb2⟩)
        all_goals
          go_wp2_with fail
          go_meet
          case rel => exact ⟨A2, c2, rfl, rfl, hown2, below_of_drew hb2⟩
      case rest =>
        obtain ⟨A2, c2, rfl, rfl, hown2, hb2⟩ := hcut
        have hbc := hbw.trans (hb2.mono hbw.size)
        by_cases hx : x = 0
        · by_cases hN1 : N = 1
          · subst hx
            subst hN1
            obtain ⟨⟨kd, T, num, ps⟩, rfl⟩ : ∃ t, acc = [t] := List.length_eq_one_iff.1 HN.out
            have hR2 : lexR V = ([⟨kd, T, num, ps⟩], 0, 0) := by
              rcases lexR_cases V with ⟨p2, x2, h2, h3, _⟩ | ⟨acc2, h2⟩
              · have h4 := HR.out.symm.trans h2
                have h5 : (0 : Int) = x2 := by injection h4 with _ h4; injection h4
                omega
              · have h4 := HR.out.symm.trans h2
                have h5 : [(⟨kd, T, num, ps⟩ : Tok)] = acc2 := by injection h4
                rw [h2, h5]
            have hWd := lexR_wd hR2 ⟨kd, T, num, ps⟩ (by simp)
            have hTs : T.size ≤ 14 := by
              have h1 := hWd.few
              have h2 : T.data.toList.length = T.size := Array.length_toList
              have h3 : T.data.toList.length ≤ V.size := h1
              omega
            have HWd := Lib.hid hWd
            clear hR2 hWd
            obtain ⟨g, rfl, hg0, hg, _, hcell⟩ := own_slice hown2 (show 0 < 1 by decide)
            have c0 := hcell 0 _ rfl
            have c1 := hcell 1 _ rfl
            have c2' := hcell 2 _ rfl
            have c3 := hcell 3 _ rfl
            have f3 := hown2.frozenAt 3
            clear hcell
            go_wp2_with (at_builtin; refine wpList_append_own _ rfl (.tmp 53) (.tmp 57) _ rfl w.heap.size 33 i0 _ 4 40 Try.underlying27 hi hz0 hz1 hz2 rfl (by decide) (.slice A n c) n _ rfl (own_later hown (below_new (hb2.setCell hg0 _) (Nat.le_refl _) _)) ⟨wc.heap.size, 0, none⟩ 1 1 [.int .i64 kd, .string T, .int .i64 num, .int .i64 X.size] rfl rfl ?e1 ?e2 ?e3 ?e4 ?e5 ?_)
            case e2 =>
              first
                | exact ⟨rfl, rfl, rfl, rfl⟩
                | (intro u hu
                   simp at hu
                   rcases hu with rfl | rfl | rfl | rfl <;> rfl)
            case e3 => unfold maxLen; omega
            case e4 => omega
            case e5 => have := hbc.size; simp; omega
            intro v' w3 hown' hgrow _
            obtain ⟨g3, cap3, hv⟩ := own_form hown' (by omega)
            have Hv := Lib.hid hv
            have c1' : w3.cell? ⟨g, 1, none⟩ = some (.string T) := by
              refine hgrow.cell ?_ ?_
              · rw [World.cell?_alloc_past _ _ _ (by simpa using hg)]
                first
                  | exact (World.cell?_setCell_other (show (⟨g, 3, none⟩ : Addr) ≠ ⟨g, 1, none⟩ by intro h; injection h with _ h2 _; exact absurd h2 (by decide))).trans c1
                  | (go_simp; done)
                  | (simp [c1]; done)
              · intro e
                have := (hown.lt g e.symm).2
                omega
            have hbW : Below w.heap.size w w3 := (hbw.trans ((below_new (hb2.setCell hg0 _) (Nat.le_refl _) _).mono hbw.size)).grown hgrow (by have := hbc.size; simp; omega) (fun b hb => (hown.lt b hb).1)
            have hown3 : w3.ownsRow w.heap.size 33 4 (.slice (some ⟨g3, 0, none⟩) (n + 1) cap3) (n + 1) (tcells (ts ++ [(⟨kd, T, num, X.size⟩ : Tok)])) := by
              rw [tcells_snoc, ← hv]
              exact hown'
            have Hts2 : Hid ((ts ++ [(⟨kd, T, num, X.size⟩ : Tok)]).length = n + 1) := by
              show (ts ++ [(⟨kd, T, num, X.size⟩ : Tok)]).length = n + 1
              rw [List.length_append, hts.out]
              rfl
            have HJ2 : Hid (∀ gp : UInt8, gapU gp = true → Jn (X ++ T ++ ⟨#[gp]⟩).data.toList (ts ++ [(⟨kd, T, num, X.size⟩ : Tok)])) := by
              intro gp hgp
              have h := hJ.step HWd.out hgp
              have e : X.data.toList.length = X.size := Array.length_toList
              rw [e] at h
              rw [Joins.data_append, Joins.data_append]
              exact h
            have Hsz : Hid (∀ gp : UInt8, (X ++ T ++ ⟨#[gp]⟩ : ByteArray).size ≤ 15 * (k + 1)) := by
              intro gp
              rw [ByteArray.size_append, ByteArray.size_append]
              show X.size + T.size + 1 ≤ _
              omega
            have hXT : (X ++ T).size ≤ 400 := by rw [ByteArray.size_append]; omega
            clear hv hown' hgrow hown hown2 hb2 hbc c0 c1 c2' c3 f3 hg hg0
            cases line
            · go_wp2_with fail
              go_roundw
              case rel => exact ⟨k + 1, X ++ T ++ ⟨#[32]⟩, ts ++ [(⟨kd, T, num, X.size⟩ : Tok)], some ⟨g3, 0, none⟩, n + 1, cap3, by omega, by omega, Hsz.out 32, by omega, HJ2.out 32 (by decide), Hts2, rfl, Hv.out, by go_num, hown3, hbW⟩
              case measure => simp [intOf]; omega
            · go_wp2_with fail
              go_roundw
              case rel => exact ⟨k + 1, X ++ T ++ ⟨#[10]⟩, ts ++ [(⟨kd, T, num, X.size⟩ : Tok)], some ⟨g3, 0, none⟩, n + 1, cap3, by omega, by omega, Hsz.out 10, by omega, HJ2.out 10 (by decide), Hts2, rfl, Hv.out, by go_num, hown3, hbW⟩
              case measure => simp [intOf]; omega
          · subst hx
            have hNn : ((N : Int) != 1) = true := by rw [bne_iff_ne]; omega
            go_wp2_with fail
            go_roundw
            case rel => exact ⟨k + 1, X, ts, A, n, c, by omega, by omega, by omega, by omega, hJ, hts, rfl, rfl, by go_num, own_later hown hb2, hbc⟩
            case measure => simp [intOf]; omega
        · have hxn : (x != 0) = true := by rw [bne_iff_ne]; exact hx
          go_wp2_with fail
          go_roundw
          case rel => exact ⟨k + 1, X, ts, A, n, c, by omega, by omega, by omega, by omega, hJ, hts, rfl, rfl, by go_num, own_later hown hb2, hbc⟩
          case measure => simp [intOf]; omega
    · have hs1 : X.size ≤ 140737488351232 := by omega
      have HRX := Lib.hid (hJ.done (by rw [hts.out]; omega))
      have hend : len ≤ k ∨ (k < len ∧ 20 ≤ k) := by omega
      clear hlt
      rcases hend with hend | ⟨hend, hend2⟩
      all_goals
        go_wp2_with fail
        refine (lex_good HRX.out _ hs1 hts.out).mono ?_
        rintro e w1 ⟨A1, c1, rfl, own1, hb1⟩
        go_wp2_with fail
        refine (reads_any _).mono ?_
        rintro e w3 ⟨rfl, hb3⟩
        have hb := hbw.trans ((hb1.trans (hb3.mono hb1.size)).mono hbw.size)
        have own1' := own_later own1 hb3
        have own2' := own_later (own_later hown hb1) hb3
        clear own1 hb1 hb3 hs1 hown hbw
        go_wp2_with fail
        go_loopw [14] (fun i wr => ∃ (k2 m : Nat), k2 ≤ n ∧ i = .int .i64 k2 ∧ wr = w3.drewN m) (fun i _ => n - (intOf i).toNat)
        case atStart => exact ⟨0, 0, by omega, rfl, rfl⟩
        case round =>
          obtain ⟨k2, m, hk2, rfl, rfl⟩ := hrel
          by_cases hlt2 : k2 < n
          · obtain ⟨g1, rfl, _, hg1, hn1, hc1⟩ := own_slice own1' (by omega)
            obtain ⟨g2, rfl, _, hg2, hn2, hc2⟩ := own_slice own2' (by omega)
            obtain ⟨t, ht⟩ : ∃ t, ts[k2]? = some t := ⟨ts[k2]'(by rw [hts.out]; exact hlt2), List.getElem?_eq_getElem _⟩
            obtain ⟨q0, q1, q2, q3⟩ := tcells_at ts k2 t ht
            have a0 := hc1 _ _ q0
            have a1 := hc1 _ _ q1
            have a2 := hc1 _ _ q2
            have a3 := hc1 _ _ q3
            have b0 := hc2 _ _ q0
            have b1 := hc2 _ _ q1
            have b2 := hc2 _ _ q2
            have b3 := hc2 _ _ q3
            clear q0 q1 q2 q3 hc1 hc2 ht own1' own2'
            go_wp2_with fail
            go_quiet (fail)
            go_wp2_with fail
            go_roundw
            case rel => exact ⟨k2 + 1, _, by omega, by go_num, rfl⟩
            case measure => simp [intOf]; omega
          · go_wp2_with fail
            go_ret
            exact ⟨rfl, below_drewN hb _⟩

theorem lexJoins_own : ownKnob Try.prog.godebug = none := by kernel_rfl
theorem lexJoins_laidOut : laidOutB Try.prog = true := by kernel_rfl
set_option maxRecDepth 100000 in
theorem lexJoins_lifted (os : Os) (started : os.Started) (H : Type) (enc : TypeId × Value → H) :
    ReturnsInHanded {} Try.checked os 4 .any (Rows.lexJoinsSpec.pre6 enc Try.prog Try.f4 Rows.lexJoinsRow.domain false) (Rows.lexJoinsSpec.post enc Try.prog Try.f4 false true false false) := by
  refine returnsInHanded_of_change (C := Try.checked) lexJoins_own started (by kernel_rfl) Try.func4
    (ChangeSpec.witness6 (enc := enc) (C := Try.checked) false ⟨#[], #[.slice none 0 0, .bool false], []⟩ 8 (by kernel_rfl) (by kernel_rfl) (by kernel_rfl) (by kernel_rfl)) ?_
  intro W base args ds gs before hval0 hW _ _
  have hval : ∀ (j : Nat) t v, Try.f4.params[j]? = some t → args[j]? = some v → Value.okWide Try.prog W .any base t v := hval0
  have hW' := hW
  obtain ⟨p, q, hA0, hV, rfl, _, _⟩ := hW
  have hA : DataW.TrodAll enc Try.prog W 0 (fun _ => true) true Try.f4.params.toList args.toList ds p := hA0
  rw [Try.params4] at hA hval
  obtain ⟨v0, vs0, d0, ds0, p0, q0, hargs, rfl, rfl, h0, r0⟩ := trodAll_cons hA
  obtain ⟨v1, vs1, d1, ds1, p1, q1, rfl, rfl, rfl, h1, r1⟩ := trodAll_cons r0
  obtain ⟨rfl, rfl, rfl⟩ := trodAll_nil r1
  obtain rfl : args = #[v0, v1] := by cases args; simp_all
  obtain ⟨rfl, rfl⟩ := trodVars_none hV
  obtain ⟨a0, len0, cap0, rfl⟩ := okWide_slice Try.underlying35 (hval 0 35 v0 rfl rfl)
  have k0 := h0
  have lt0 : ∀ x ∈ p0, x.block < W.heap.size := by obtain ⟨m, hm⟩ := k0; exact DataW.trod_lt m _ _ _ hm
  have w0 := strs_of h0
  obtain ⟨a1, rfl, rfl, rfl⟩ := open_bool Try.underlying4 (hval 1 4 v1 rfl rfl) h1
  clear hA0 hval0
  refine (lexJoins_walk a0 len0 cap0 a1 W w0).mono fun e W' ⟨he, bel⟩ => ?_
  subst he
  exact ⟨_, rfl, _, _, _, [], _, [], hW', trodAll_mk1 (shut_bool Try.underlying4 _), (trodAll_cons_mk (Below.trod lexJoins_laidOut (by kernel_rfl) (of_decide_eq_true (by kernel_rfl)) k0 bel lt0) (trodAll_cons_mk (shut_bool Try.underlying4 a1) trodAll_mk0)), rfl, bel.frame _, fun h => by cases h⟩

theorem lexJoins_holds : Rows.LexJoinsSaid :=
  OpenClaim.holds_of_wide 4 Try.f4 rfl rfl rfl rfl rfl rfl rfl ⟨rfl, rfl, rfl, rfl, rfl⟩ rfl rfl rfl rfl rfl (by kernel_rfl) Try.func4 (by kernel_rfl)
    (of_decide_eq_true (by kernel_rfl)) (by unfold Func.isWrapper; first | (rw [if_pos (by decide +kernel)]; kernel_rfl) | (rw [if_neg (by decide +kernel)]; exact ⟨rfl, rfl⟩))
    (fun os started H enc _ => lexJoins_lifted os started H enc)
#print axioms lexJoins_holds
end Go.Proofs.Ytlnfilefpehnbaa
