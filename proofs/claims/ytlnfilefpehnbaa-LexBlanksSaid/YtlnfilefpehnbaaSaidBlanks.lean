/-
  LexBlanks: gaps ahead of a text and behind it change nothing but the places of its words; for every text and every count.
  Conditions: none.
-/
import Derived.Test.YtlnfilefpehnbaaRows
import Derived.Test.YtlnfilefpehnbaaPlainShift
import Derived.Test.YtlnfilefpehnbaaNums
import Derived.WalkKit
import Derived.ProofKit
import Derived.OpenShut
import Derived.ShutString
import Derived.ChangeOld
import Derived.Below
import Derived.Lib.SmallJoins
import Derived.Deep.QuietTactic
import Derived.BigQuiet
namespace Go.Proofs.Ytlnfilefpehnbaa
open Go.ChangeShapes Go.WideShapes Go.ChangeAt Go.RowKit
open Go.ChangeMaps (open_string shut_string)

set_option maxRecDepth 100000 in
set_option maxHeartbeats 4000000 in
theorem lexBlanks_walk (s : ByteArray) (n : Int) (hs : s.size ≤ maxLen) (_ : (Lit.int .i64 n).wf = true) (w : World) :
    Calls Try.prog 8 #[.string s, .int .i64 n] w fun e w' => e = .returned (.bool true) ∧ Below w.heap.size w w' := by
  obtain ⟨u, hu⟩ : ∃ u : Int, IntKind.u64.wrap n = u := ⟨_, rfl⟩
  have hu0 : 0 ≤ u := by rw [← hu]; exact u64_pos n
  obtain ⟨K, hK⟩ : ∃ K : Nat, u % 9 = (K : Int) := ⟨(u % 9).toNat, by omega⟩
  have hK2 : K ≤ 8 := by omega
  unfold maxLen at hs
  go_enter Try.func8, Try.ntmps8
  go_wp2_with fail
  have hT0 : (s.extract 0 (min (s.size : Int) 200).toNat).size ≤ 200 := by simp; omega
  generalize s.extract 0 (min (s.size : Int) 200).toNat = T at *
  clear hu hK hs
  go_loop [6, 7] (fun v i => ∃ (P : ByteArray) (k : Nat), k ≤ K ∧ Hid (P.data.toList = padL k) ∧ v = .string P ∧ i = .int .i64 k) (fun _ i => K - (intOf i).toNat)
  case atStart => exact ⟨_, 0, by omega, show _ = padL 0 from rfl, rfl, rfl⟩
  case round =>
    obtain ⟨P, k, hk, hP, rfl, rfl⟩ := hrel
    have hPs : P.size ≤ 16 := by
      have h := congrArg List.length hP.out
      rw [padL_len] at h
      have h2 : P.data.toList.length = P.size := by simp
      omega
    by_cases hlt : k < K
    · go_wp2_with fail
      go_round
      case rel =>
        refine ⟨P ++ ⟨#[32, 10]⟩, k + 1, by omega, ?_, rfl, by go_num⟩
        show (P ++ ⟨#[32, 10]⟩).data.toList = _
        rw [Joins.data_append, hP.out]
        rfl
      case measure => simp [intOf]; omega
    · obtain rfl : K = k := by omega
      have hTl : T.data.toList.length ≤ 200 := by simpa using hT0
      have hPl : P.data.toList.length = 2 * K := by rw [hP.out, padL_len]
      have hS : (P ++ T ++ P).data.toList = P.data.toList ++ T.data.toList ++ P.data.toList := by rw [Joins.data_append, Joins.data_append]
      have hSs : (P ++ T ++ P).size ≤ 140737488351232 := by
        have h : (P ++ T ++ P).data.toList.length ≤ 140737488351232 := by rw [hS, List.length_append, List.length_append]; omega
        have h2 : (P ++ T ++ P).data.toList.length = (P ++ T ++ P).size := Array.length_toList
        omega
      have hPT : (P ++ T).size ≤ 216 := by
        have h : (P ++ T).data.toList.length ≤ 216 := by rw [Joins.data_append, List.length_append]; omega
        have h2 : (P ++ T).data.toList.length = (P ++ T).size := Array.length_toList
        omega
      have hTs : T.size ≤ 140737488351232 := by omega
      have hF := lexF_gaps P.data.toList T.data.toList (by rw [hP.out]; exact padL_gap K) (by omega)
      rw [← hS, ← lexR_lexF, ← lexR_lexF, hPl] at hF
      clear hS hPl
      go_wp2_with fail
      rcases hF with ⟨p, x, hR1, ⟨hx, hpl⟩, hR2⟩ | ⟨acc, hR1, hpos, hR2⟩
      · have hp200 : p ≤ 200 := by omega
        clear hTl hpl
        refine (lex_bad hR1 _ hTs).mono ?_
        clear hR1
        rintro e w1 ⟨A1, c1, rfl, hb1⟩
        go_wp2_with fail
        refine (lex_bad' hR2 (q := (p : Int) + 2 * (K : Int)) (by omega) _ hSs).mono ?_
        clear hR2
        rintro e w2 ⟨A2, c2, rfl, hb2⟩
        go_wp2_with fail
        refine (reads_any _).mono ?_
        rintro e w3 ⟨rfl, hb3⟩
        have hb := hb1.trans ((hb2.trans (hb3.mono hb2.size)).mono hb1.size)
        rcases hx with rfl | rfl
        all_goals
          go_wp2_with fail
          go_loop [14] (fun i => i = .int .i64 0) (fun _ => 0)
          case atStart => rfl
          case round =>
            subst hrel
            go_wp2_with fail
            go_ret
            exact ⟨rfl, hb⟩
      · obtain ⟨N, hN⟩ : ∃ N, acc.length = N := ⟨_, rfl⟩
        have hN2 : N ≤ 2000 := by rw [← hN]; exact lexR_len hR1
        have HN := Lib.hid hN
        have Hpos := Lib.hid hpos
        clear hN hpos
        refine (lex_good hR1 _ hTs HN.out).mono ?_
        clear hR1
        rintro e w1 ⟨A1, c1, rfl, own1, hb1⟩
        go_wp2_with fail
        refine (lex_good hR2 _ hSs (n := N) (by rw [List.length_map]; exact HN.out)).mono ?_
        clear hR2
        rintro e w2 ⟨A2, c2, rfl, own2, hb2⟩
        go_wp2_with fail
        refine (reads_any _).mono ?_
        rintro e w3 ⟨rfl, hb3⟩
        have hb := hb1.trans ((hb2.trans (hb3.mono hb2.size)).mono hb1.size)
        have own1' := own_later own1 (hb2.trans (hb3.mono hb2.size))
        have own2' := own_later own2 hb3
        clear own1 own2 hb1 hb2 hb3 hPT hPs hSs hTs hT0
        go_wp2_with fail
        go_loopw [14] (fun i wr => ∃ (k m : Nat), k ≤ N ∧ i = .int .i64 k ∧ wr = w3.drewN m) (fun i _ => N - (intOf i).toNat)
        case atStart => exact ⟨0, 0, by omega, rfl, rfl⟩
        case round =>
          obtain ⟨k, m, hk, rfl, rfl⟩ := hrel
          by_cases hlt : k < N
          · obtain ⟨g1, rfl, _, hg1, hn1, hc1⟩ := own_slice own1' (by omega)
            obtain ⟨g2, rfl, _, hg2, hn2, hc2⟩ := own_slice own2' (by omega)
            obtain ⟨t, ht⟩ : ∃ t, acc[k]? = some t := ⟨acc[k]'(by rw [HN.out]; exact hlt), List.getElem?_eq_getElem _⟩
            have htp : t.pos ≤ 200 := Nat.le_trans (Hpos.out t (List.mem_of_getElem? ht)) hTl
            obtain ⟨q0, q1, q2, q3⟩ := tcells_at acc k t ht
            obtain ⟨r0, r1, r2, r3⟩ := tcells_at (acc.map (sh (2 * K))) k (sh (2 * K) t) (by rw [List.getElem?_map, ht]; rfl)
            have a0 := hc1 _ _ q0
            have a1 := hc1 _ _ q1
            have a2 := hc1 _ _ q2
            have a3 := hc1 _ _ q3
            have b0 := hc2 _ _ r0
            have b1 := hc2 _ _ r1
            have b2 := hc2 _ _ r2
            have b3 := hc2 _ _ r3
            rw [show (sh (2 * K) t).kind = t.kind from rfl] at b0
            rw [show (sh (2 * K) t).text = t.text from rfl] at b1
            rw [show (sh (2 * K) t).num = t.num from rfl] at b2
            rw [show (((sh (2 * K) t).pos : Nat) : Int) = (t.pos : Int) + 2 * (K : Int) from by show ((t.pos + 2 * K : Nat) : Int) = _; omega] at b3
            clear q0 q1 q2 q3 r0 r1 r2 r3 hc1 hc2 ht own1' own2'
            go_wp2_with fail
            go_quiet (fail)
            go_wp2_with fail
            go_roundw
            case rel => exact ⟨k + 1, _, by omega, by go_num, rfl⟩
            case measure => simp [intOf]; omega
          · go_wp2_with fail
            go_ret
            exact ⟨rfl, below_drewN hb _⟩

theorem lexBlanks_own : ownKnob Try.prog.godebug = none := by kernel_rfl
set_option maxRecDepth 100000 in
theorem lexBlanks_lifted (os : Os) (started : os.Started) (H : Type) (enc : TypeId × Value → H) :
    ReturnsInHanded {} Try.checked os 8 .any (Rows.lexBlanksSpec.pre6 enc Try.prog Try.f8 Rows.lexBlanksRow.domain false) (Rows.lexBlanksSpec.post enc Try.prog Try.f8 false true false false) := by
  refine returnsInHanded_of_change (C := Try.checked) lexBlanks_own started (by kernel_rfl) Try.func8
    (ChangeSpec.witness6 (enc := enc) (C := Try.checked) false ⟨#[], #[.string ByteArray.empty, .int .i64 0], []⟩ 8 (by kernel_rfl) (by kernel_rfl) (by kernel_rfl) (by kernel_rfl)) ?_
  intro W base args ds gs before hval0 hW _ _
  have hval : ∀ (j : Nat) t v, Try.f8.params[j]? = some t → args[j]? = some v → Value.okWide Try.prog W .any base t v := hval0
  have hW' := hW
  obtain ⟨p, q, hA0, hV, rfl, _, _⟩ := hW
  have hA : DataW.TrodAll enc Try.prog W 0 (fun _ => true) true Try.f8.params.toList args.toList ds p := hA0
  rw [Try.params8] at hA hval
  obtain ⟨v0, vs0, d0, ds0, p0, q0, hargs, rfl, rfl, h0, r0⟩ := trodAll_cons hA
  obtain ⟨v1, vs1, d1, ds1, p1, q1, rfl, rfl, rfl, h1, r1⟩ := trodAll_cons r0
  obtain ⟨rfl, rfl, rfl⟩ := trodAll_nil r1
  obtain rfl : args = #[v0, v1] := by cases args; simp_all
  obtain ⟨rfl, rfl⟩ := trodVars_none hV
  obtain ⟨a0, rfl, rfl, rfl, w0⟩ := open_string Try.underlying9 (hval 0 9 v0 rfl rfl) h0
  obtain ⟨a1, rfl, rfl, rfl, w1⟩ := open_int Try.underlying3 (hval 1 3 v1 rfl rfl) h1
  clear hA0 hval0
  refine (lexBlanks_walk a0 a1 w0 w1 W).mono fun e W' ⟨he, bel⟩ => ?_
  subst he
  exact ⟨_, rfl, _, _, _, [], _, [], hW', trodAll_mk1 (shut_bool Try.underlying4 _), (trodAll_cons_mk (shut_string Try.underlying9 w0) (trodAll_cons_mk (shut_int Try.underlying3 w1) trodAll_mk0)), rfl, bel.frame _, fun h => by cases h⟩

theorem lexBlanks_holds : Rows.LexBlanksSaid :=
  OpenClaim.holds_of_wide 8 Try.f8 rfl rfl rfl rfl rfl rfl rfl ⟨rfl, rfl, rfl, rfl, rfl⟩ rfl rfl rfl rfl rfl (by kernel_rfl) Try.func8 (by kernel_rfl)
    (of_decide_eq_true (by kernel_rfl)) (by unfold Func.isWrapper; first | (rw [if_pos (by decide +kernel)]; kernel_rfl) | (rw [if_neg (by decide +kernel)]; exact ⟨rfl, rfl⟩))
    (fun os started H enc _ => lexBlanks_lifted os started H enc)
#print axioms lexBlanks_holds
end Go.Proofs.Ytlnfilefpehnbaa
