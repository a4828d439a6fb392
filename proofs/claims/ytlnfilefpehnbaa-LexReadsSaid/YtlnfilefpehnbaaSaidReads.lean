/-
  LexReads: for every text the words, the place and the error that lex.Lex tells are the document's.
  Conditions: none.
-/
import Derived.Test.YtlnfilefpehnbaaRows
import Derived.Test.YtlnfilefpehnbaaReadsRef
import Derived.WalkKit
import Derived.ProofKit
import Derived.OpenShut
import Derived.ShutString
import Derived.ChangeOld
import Derived.Below
import Derived.Lib.SmallJoins
import Derived.Deep.QuietTactic
import Derived.BigQuiet
import Derived.Deep.DeepCutAuto
namespace Go.Proofs.Ytlnfilefpehnbaa
open Go.ChangeShapes Go.WideShapes Go.ChangeAt Go.RowKit
open Go.ChangeMaps (open_string shut_string)

set_option maxRecDepth 100000 in
set_option maxHeartbeats 8000000 in
theorem lexReads_walk (s : ByteArray) (n : Int) (hs : s.size ≤ maxLen) (_ : (Lit.int .i64 n).wf = true) (w : World) :
    Calls Try.prog 3 #[.string s, .int .i64 n] w fun e w' => e = .returned (.bool true) ∧ Below w.heap.size w w' := by
  obtain ⟨u, hu⟩ : ∃ u : Int, IntKind.u64.wrap n = u := ⟨_, rfl⟩
  have hu0 : 0 ≤ u := by rw [← hu]; exact u64_pos n
  unfold maxLen at hs
  go_enter Try.func3, Try.ntmps3
  go_upto_if 23 with fail
  have hT0 : (s.extract 0 (min (s.size : Int) 300).toNat).size ≤ 300 := by simp; omega
  generalize s.extract 0 (min (s.size : Int) 300).toNat = T at *
  clear hu hs
  go_cut [0] from 13 (fun s0 wx => ∃ T' : ByteArray, T'.size ≤ 2100 ∧ s0 = .string T' ∧ wx = w)
  case first =>
    rcases Bool.eq_false_or_eq_true (u % 40 == 39) with h39 | h39
    · go_wp2_with fail
      go_loop [0] (fun v => ∃ T' : ByteArray, T'.size ≤ 4198 ∧ v = .string T') (fun v => 2100 - strLen v)
      case atStart => exact ⟨T, by omega, rfl⟩
      case round =>
        obtain ⟨T', hT', rfl⟩ := hrel
        by_cases h1 : T'.size < 2100
        · by_cases h2 : 0 < T'.size
          · go_wp2_with fail
            go_round
            case rel => omega
            case measure =>
              show 2100 - (T' ++ T').size < 2100 - T'.size
              rw [ByteArray.size_append]
              omega
          · go_wp2_with fail
            go_meet
            case rel => exact ⟨_, by simp; omega, rfl, rfl⟩
        · go_wp2_with fail
          go_meet
          case rel => exact ⟨_, by simp; omega, rfl, rfl⟩
    · go_wp2_with fail
      go_meet
      case rel => exact ⟨T, by omega, rfl, rfl⟩
  case rest =>
    obtain ⟨T', hT', rfl, hwc⟩ := hcut
    have hwc2 := hwc.symm
    subst hwc2
    clear hwc
    have hs1 : T'.size ≤ 140737488351232 := by omega
    have hs2 : T'.size ≤ 2147483647 := by omega
    go_wp2_with fail
    rcases lexR_cases T' with ⟨p, x, hR, hx, hp⟩ | ⟨acc, hR⟩
    · refine (lex_bad hR _ hs1).mono ?_
      rintro e w1 ⟨A1, c1, rfl, hb1⟩
      go_wp2_with fail
      refine (rlex_bad hR _ hs2).mono ?_
      rintro e w2 ⟨A2, c2, rfl, hb2⟩
      go_wp2_with fail
      refine (reads_any _).mono ?_
      rintro e w3 ⟨rfl, hb3⟩
      have hb := hb1.trans ((hb2.trans (hb3.mono hb2.size)).mono hb1.size)
      clear hR hx hb1 hb2 hb3
      go_wp2_with fail
      go_loop [12] (fun i => i = .int .i64 0) (fun _ => 0)
      case atStart => rfl
      case round =>
        subst hrel
        go_wp2_with fail
        go_ret
        exact ⟨rfl, hb⟩
    · obtain ⟨N, hN⟩ : ∃ N, acc.length = N := ⟨_, rfl⟩
      have hN2 : N ≤ 2000 := by rw [← hN]; exact lexR_len hR
      have HN := Lib.hid hN
      have HR := Lib.hid hR
      clear hN hR
      refine (lex_good HR.out _ hs1 HN.out).mono ?_
      rintro e w1 ⟨A1, c1, rfl, own1, hb1⟩
      go_wp2_with fail
      refine (rlex_good HR.out _ hs2 HN.out).mono ?_
      rintro e w2 ⟨A2, c2, rfl, own2, hb2⟩
      go_wp2_with fail
      refine (reads_any _).mono ?_
      rintro e w3 ⟨rfl, hb3⟩
      have hb := hb1.trans ((hb2.trans (hb3.mono hb2.size)).mono hb1.size)
      have own1' := own_later own1 (hb2.trans (hb3.mono hb2.size))
      have own2' := own_later own2 hb3
      clear own1 own2 hb1 hb2 hb3 hs1 hs2 hT0
      go_wp2_with fail
      go_loopw [12] (fun i wr => ∃ (k m : Nat), k ≤ N ∧ i = .int .i64 k ∧ wr = w3.drewN m) (fun i _ => N - (intOf i).toNat)
      case atStart => exact ⟨0, 0, by omega, rfl, rfl⟩
      case round =>
        obtain ⟨k, m, hk, rfl, rfl⟩ := hrel
        by_cases hlt : k < N
        · obtain ⟨g1, rfl, _, hg1, hn1, hc1⟩ := own_slice own1' (by omega)
          obtain ⟨g2, rfl, _, hg2, hn2, hc2⟩ := own_slice own2' (by omega)
          obtain ⟨t, ht⟩ : ∃ t, acc[k]? = some t := ⟨acc[k]'(by rw [HN.out]; exact hlt), List.getElem?_eq_getElem _⟩
          obtain ⟨q0, q1, q2, q3⟩ := tcells_at acc k t ht
          have a0 := hc1 _ _ q0
          have a1 := hc1 _ _ q1
          have a2 := hc1 _ _ q2
          have a3 := hc1 _ _ q3
          have b0 := hc2 _ _ q0
          have b1 := hc2 _ _ q1
          have b2 := hc2 _ _ q2
          have b3 := hc2 _ _ q3
          clear q0 q1 q2 q3 hc1 hc2 ht own1' own2'
          go_wp2_with fail
          go_quiet (fail)
          go_wp2_with fail
          go_roundw
          case rel => exact ⟨k + 1, _, by omega, by go_num, rfl⟩
          case measure => simp [intOf]; omega
        · go_wp2_with fail
          go_ret
          exact ⟨rfl, below_drewN hb _⟩

theorem lexReads_own : ownKnob Try.prog.godebug = none := by kernel_rfl
set_option maxRecDepth 100000 in
theorem lexReads_lifted (os : Os) (started : os.Started) (H : Type) (enc : TypeId × Value → H) :
    ReturnsInHanded {} Try.checked os 3 .any (Rows.lexReadsSpec.pre6 enc Try.prog Try.f3 Rows.lexReadsRow.domain false) (Rows.lexReadsSpec.post enc Try.prog Try.f3 false true false false) := by
  refine returnsInHanded_of_change (C := Try.checked) lexReads_own started (by kernel_rfl) Try.func3
    (ChangeSpec.witness6 (enc := enc) (C := Try.checked) false ⟨#[], #[.string ByteArray.empty, .int .i64 0], []⟩ 8 (by kernel_rfl) (by kernel_rfl) (by kernel_rfl) (by kernel_rfl)) ?_
  intro W base args ds gs before hval0 hW _ _
  have hval : ∀ (j : Nat) t v, Try.f3.params[j]? = some t → args[j]? = some v → Value.okWide Try.prog W .any base t v := hval0
  have hW' := hW
  obtain ⟨p, q, hA0, hV, rfl, _, _⟩ := hW
  have hA : DataW.TrodAll enc Try.prog W 0 (fun _ => true) true Try.f3.params.toList args.toList ds p := hA0
  rw [Try.params3] at hA hval
  obtain ⟨v0, vs0, d0, ds0, p0, q0, hargs, rfl, rfl, h0, r0⟩ := trodAll_cons hA
  obtain ⟨v1, vs1, d1, ds1, p1, q1, rfl, rfl, rfl, h1, r1⟩ := trodAll_cons r0
  obtain ⟨rfl, rfl, rfl⟩ := trodAll_nil r1
  obtain rfl : args = #[v0, v1] := by cases args; simp_all
  obtain ⟨rfl, rfl⟩ := trodVars_none hV
  obtain ⟨a0, rfl, rfl, rfl, w0⟩ := open_string Try.underlying9 (hval 0 9 v0 rfl rfl) h0
  obtain ⟨a1, rfl, rfl, rfl, w1⟩ := open_int Try.underlying3 (hval 1 3 v1 rfl rfl) h1
  clear hA0 hval0
  refine (lexReads_walk a0 a1 w0 w1 W).mono fun e W' ⟨he, bel⟩ => ?_
  subst he
  exact ⟨_, rfl, _, _, _, [], _, [], hW', trodAll_mk1 (shut_bool Try.underlying4 _), (trodAll_cons_mk (shut_string Try.underlying9 w0) (trodAll_cons_mk (shut_int Try.underlying3 w1) trodAll_mk0)), rfl, bel.frame _, fun h => by cases h⟩

theorem lexReads_holds : Rows.LexReadsSaid :=
  OpenClaim.holds_of_wide 3 Try.f3 rfl rfl rfl rfl rfl rfl rfl ⟨rfl, rfl, rfl, rfl, rfl⟩ rfl rfl rfl rfl rfl (by kernel_rfl) Try.func3 (by kernel_rfl)
    (of_decide_eq_true (by kernel_rfl)) (by unfold Func.isWrapper; first | (rw [if_pos (by decide +kernel)]; kernel_rfl) | (rw [if_neg (by decide +kernel)]; exact ⟨rfl, rfl⟩))
    (fun os started H enc _ => lexReads_lifted os started H enc)
#print axioms lexReads_holds
end Go.Proofs.Ytlnfilefpehnbaa
