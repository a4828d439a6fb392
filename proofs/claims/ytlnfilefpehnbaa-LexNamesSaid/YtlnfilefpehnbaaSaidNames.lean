/-
  LexNames: a letter and ones behind it are a name up to twelve signs, no word beyond; a one ahead of it makes it none; for every n and first byte.
  Conditions: none.
-/
import Derived.Test.YtlnfilefpehnbaaRows
import Derived.Test.YtlnfilefpehnbaaPlainList
import Derived.Test.YtlnfilefpehnbaaNums
import Derived.WalkKit
import Derived.ProofKit
import Derived.OpenShut
import Derived.ShutString
import Derived.ChangeOld
import Derived.Below
import Derived.Lib.SmallJoins
namespace Go.Proofs.Ytlnfilefpehnbaa
open Go.ChangeShapes Go.WideShapes Go.ChangeAt Go.RowKit
open Go.ChangeMaps (open_string shut_string)

theorem ofL_data (T : ByteArray) : ofL T.data.toList = T := by
  unfold ofL
  rfl
theorem aln_ones : ∀ j : Nat, lenOf alnU (List.replicate j 49) = j := by
  intro j
  induction j with
  | zero => rfl
  | succ j ih =>
    rw [List.replicate_succ]
    have h : alnU 49 = true := by decide
    unfold lenOf at *
    rw [List.takeWhile_cons, if_pos h, List.length_cons, ih]
theorem aln_name (c : UInt8) (hc : letU c = true) (j : Nat) : lenOf alnU (c :: List.replicate j 49) = j + 1 := by
  have h : alnU c = true := by unfold alnU; rw [hc]; rfl
  have := aln_ones j
  unfold lenOf at *
  rw [List.takeWhile_cons, if_pos h, List.length_cons, this]
theorem res_name (c : UInt8) (j : Nat) : resB (c :: List.replicate j 49) = false := by
  unfold resB
  match j with
  | 0 => simp
  | j + 1 => simp [List.replicate_succ]
theorem lexR_name (s T : ByteArray) (c : UInt8) (hc : letU c = true) (j : Nat) (hT : T.data.toList = c :: List.replicate j 49) (hs : s.data.toList = 32 :: T.data.toList) :
    (11 < j → lexR s = ([], 1, 3)) ∧ (j ≤ 11 → lexR s = ([⟨1, T, 0, 1⟩], 0, 0)) := by
  have h0 : lexR s = lexF (32 :: T.data.toList) := by rw [lexR_lexF, hs]
  have hg : gapU c = false := by
    rcases Bool.eq_false_or_eq_true (gapU c) with h | h
    · rcases gap_cases h with e | e <;> rw [e] at hc <;> exact absurd hc (by decide)
    · exact h
  have hE : wordE T.data.toList = nameE T.data.toList := by
    unfold wordE
    rw [hT, List.headD_cons, if_pos hc]
  have hlen : lenOf alnU T.data.toList = j + 1 := by rw [hT]; exact aln_name c hc j
  have htl : T.data.toList.length = j + 1 := by rw [hT]; simp
  have h1 : lexW (32 :: T.data.toList) 0 [] = lexW T.data.toList 1 [] := lexW_gap (r := 32 :: T.data.toList) (by simp) (show gapU 32 = true by decide) 0 []
  rw [h0]
  unfold lexF
  rw [h1]
  refine ⟨fun hj => ?_, fun hj => ?_⟩
  · rw [lexW_err (by omega) (by rw [hT, List.headD_cons]; exact hg) (x := 3) (by rw [hE]; unfold nameE; rw [hlen, if_pos (by omega)])]
  · rw [lexW_word (by omega) (by rw [hT, List.headD_cons]; exact hg) (k := 1) (n := j + 1) (m := 0) (by
      rw [hE]; unfold nameE; rw [hlen, if_neg (by omega), List.take_of_length_le (by omega), hT, res_name]; rfl)]
    rw [List.drop_of_length_le (by omega), lexW_nil, List.take_of_length_le (by omega), ofL_data]
    rfl
theorem lexR_oneName (s T : ByteArray) (c : UInt8) (hc : letU c = true) (j : Nat) (hT : T.data.toList = c :: List.replicate j 49) (hs : s.data.toList = 49 :: T.data.toList) : lexR s = ([], 0, 3) := by
  rw [lexR_lexF, hs, hT]
  have hnd := let_not_dig c hc
  have hl : lenOf digU (49 :: c :: List.replicate j 49) = 1 := by
    unfold lenOf
    rw [List.takeWhile_cons, if_pos (by decide), List.takeWhile_cons, if_neg (by rw [hnd]; decide)]
    rfl
  have hE : wordE (49 :: c :: List.replicate j 49) = .error 3 := by
    unfold wordE
    rw [List.headD_cons, if_neg (by decide), if_pos (by decide)]
    unfold numE
    rw [hl, if_pos (.inr (.inr hc))]
  unfold lexF
  rw [lexW_err (by simp) (by rw [List.headD_cons]; decide) hE]

/-- How long a text is. -/
def strLen : Value → Nat
  | .string s => s.size
  | _ => 0
theorem size_of {T : ByteArray} {l : List UInt8} (h : T.data.toList = l) : T.size = l.length := by
  rw [← h]; simp

set_option maxHeartbeats 2000000 in
theorem lexNames_walk (n b : Int) (_ : (Lit.int .i64 n).wf = true) (hb : (Lit.int .u8 b).wf = true) (w : World) :
    Calls Try.prog 9 #[.int .i64 n, .int .u8 b] w fun e w' => e = .returned (.bool true) ∧ Below w.heap.size w w' := by
  obtain ⟨u, hu⟩ : ∃ u : Int, IntKind.u64.wrap n = u := ⟨_, rfl⟩
  have hu0 : 0 ≤ u := by rw [← hu]; exact u64_pos n
  obtain ⟨K, hK⟩ : ∃ K : Nat, 1 + u % 16 = (K : Int) := ⟨(1 + u % 16).toNat, by omega⟩
  have hK1 : 1 ≤ K := by omega
  have hK2 : K ≤ 16 := by omega
  have hb0 : 0 ≤ b ∧ b ≤ 255 := bounds_u8 hb
  obtain ⟨hb1, hb2⟩ := hb0
  clear hb
  have hc0 : (97 + b % 26).toNat < 256 := by omega
  obtain ⟨c, hc⟩ : ∃ c : UInt8, 97 + b % 26 = (c.toNat : Int) := ⟨UInt8.ofNat (97 + b % 26).toNat, by rw [UInt8.toNat_ofNat_of_lt' hc0]; omega⟩
  have hcl : letU c = true := by unfold letU letB; rw [← hc]; simp; omega
  obtain ⟨T0, hT0⟩ : ∃ T0 : ByteArray, (⟨[c].toArray⟩ : ByteArray) = T0 := ⟨_, rfl⟩
  have hcv : (convert 38 9 (.slice (some ⟨w.heap.size, 0, none⟩) 1 1)).run Try.prog (w.alloc (.cells #[.int .u8 (c.toNat : Int)] 5)) = .ok (.string T0) (w.alloc (.cells #[.int .u8 (c.toNat : Int)] 5)) := by
    rw [← hT0]
    exact cv_bytes (w.alloc (.cells #[.int .u8 (c.toNat : Int)] 5)) w.heap.size 1 [c] (fun j hj => by
      obtain rfl : j = 0 := by simpa using hj
      rw [cell_of_row _ w.heap.size 0 #[.int .u8 (c.toNat : Int)] 5 (0, 0) (heap_alloc_new w _)]
      rfl)
  have HT0 : Hid (T0.data.toList = c :: List.replicate 0 49) := by show T0.data.toList = _; rw [← hT0]; rfl
  clear hT0
  go_enter Try.func9, Try.ntmps9
  go_wp2_with fail
  have hb0 : Below w.heap.size w (w.alloc (.cells #[.int .u8 (c.toNat : Int)] 5)) := (Below.refl _ _).alloc (Nat.le_refl _) _
  generalize w.alloc (.cells #[.int .u8 (c.toNat : Int)] 5) = W at *
  clear hcv hu hK hc
  go_loop [7] (fun v => ∃ (T : ByteArray) (j : Nat), j + 1 ≤ K ∧ Hid (T.data.toList = c :: List.replicate j 49) ∧ v = .string T) (fun v => K - strLen v)
  case atStart => exact ⟨T0, 0, by omega, HT0, rfl⟩
  case round =>
    obtain ⟨T, j, hj, hT, rfl⟩ := hrel
    have hTs : T.size = j + 1 := by rw [size_of hT.out]; simp
    by_cases hlt : j + 1 < K
    · go_wp2_with fail
      go_round
      case rel =>
        refine ⟨T ++ ⟨#[49]⟩, j + 1, by omega, ?_, rfl⟩
        show (T ++ ⟨#[49]⟩).data.toList = _
        rw [Joins.data_append, hT.out, List.replicate_succ']
        rfl
      case measure =>
        simp only [strLen]
        have : (T ++ (⟨#[49]⟩ : ByteArray)).size = j + 2 := by
          rw [size_of (l := T.data.toList ++ [49]) (by rw [Joins.data_append])]
          rw [hT.out]; simp
        show K - (T ++ (⟨#[49]⟩ : ByteArray)).size < K - T.size
        rw [this, hTs]
        omega
    · obtain rfl : K = j + 1 := by omega
      obtain ⟨h1, h2⟩ := lexR_name (⟨#[32]⟩ ++ T) T c hcl j hT.out (by rw [Joins.data_append]; rfl)
      have h3 := lexR_oneName (⟨#[49]⟩ ++ T) T c hcl j hT.out (by rw [Joins.data_append]; rfl)
      have hs1 : ((⟨#[32]⟩ : ByteArray) ++ T).size ≤ 140737488351232 := by rw [size_of (l := 32 :: T.data.toList) (by rw [Joins.data_append]; rfl), hT.out]; simp; omega
      have hs2 : ((⟨#[49]⟩ : ByteArray) ++ T).size ≤ 140737488351232 := by rw [size_of (l := 49 :: T.data.toList) (by rw [Joins.data_append]; rfl), hT.out]; simp; omega
      go_wp2_with fail
      generalize (⟨#[32]⟩ : ByteArray) ++ T = S1 at *
      by_cases hj2 : j ≤ 11
      · have hR := h2 hj2
        clear h1 h2
        refine (lex_good hR _ hs1 rfl).mono ?_
        clear hR
        rintro e w1 ⟨A, cap, rfl, hown, hb1⟩
        obtain ⟨g, rfl, _, hg, _, hcell⟩ := own_slice hown (show 0 < 1 by decide)
        have c0 := hcell 0 _ rfl
        have c1 := hcell 1 _ rfl
        clear hcell hown
        go_wp2_with fail
        generalize (⟨#[49]⟩ : ByteArray) ++ T = S2 at *
        refine (lex_bad h3 _ hs2).mono ?_
        clear h3
        rintro e w2 ⟨A2, cap2, rfl, hb2⟩
        rw [← hb2.cell (p := ⟨g, 0, none⟩) hg] at c0
        rw [← hb2.cell (p := ⟨g, 1, none⟩) hg] at c1
        have hg2 : g < w2.heap.size := Nat.lt_of_lt_of_le hg hb2.size
        go_wp2_with fail
        refine (reads_any _).mono ?_
        rintro e w3 ⟨rfl, hb3⟩
        rw [← hb3.cell (p := ⟨g, 0, none⟩) hg2] at c0
        rw [← hb3.cell (p := ⟨g, 1, none⟩) hg2] at c1
        go_wp2
        go_ret
        have hb01 := hb0.trans (hb1.mono hb0.size)
        have hb02 := hb01.trans (hb2.mono hb01.size)
        exact ⟨rfl, hb02.trans (hb3.mono hb02.size)⟩
      · have hR := h1 (by omega)
        clear h1 h2
        refine (lex_bad hR _ hs1).mono ?_
        clear hR
        rintro e w1 ⟨A, cap, rfl, hb1⟩
        go_wp2_with fail
        generalize (⟨#[49]⟩ : ByteArray) ++ T = S2 at *
        refine (lex_bad h3 _ hs2).mono ?_
        clear h3
        rintro e w2 ⟨A2, cap2, rfl, hb2⟩
        go_wp2_with fail
        refine (reads_any _).mono ?_
        rintro e w3 ⟨rfl, hb3⟩
        go_wp2
        go_ret
        have hb01 := hb0.trans (hb1.mono hb0.size)
        have hb02 := hb01.trans (hb2.mono hb01.size)
        exact ⟨rfl, hb02.trans (hb3.mono hb02.size)⟩

theorem lexNames_own : ownKnob Try.prog.godebug = none := by kernel_rfl
set_option maxRecDepth 100000 in
theorem lexNames_lifted (os : Os) (started : os.Started) (H : Type) (enc : TypeId × Value → H) :
    ReturnsInHanded {} Try.checked os 9 .any (Rows.lexNamesSpec.pre6 enc Try.prog Try.f9 Rows.lexNamesRow.domain false) (Rows.lexNamesSpec.post enc Try.prog Try.f9 false true false false) := by
  refine returnsInHanded_of_change (C := Try.checked) lexNames_own started (by kernel_rfl) Try.func9
    (ChangeSpec.witness6 (enc := enc) (C := Try.checked) false ⟨#[], #[.int .i64 0, .int .u8 0], []⟩ 8 (by kernel_rfl) (by kernel_rfl) (by kernel_rfl) (by kernel_rfl)) ?_
  intro W base args ds gs before hval0 hW _ _
  have hval : ∀ (j : Nat) t v, Try.f9.params[j]? = some t → args[j]? = some v → Value.okWide Try.prog W .any base t v := hval0
  have hW' := hW
  obtain ⟨p, q, hA0, hV, rfl, _, _⟩ := hW
  have hA : DataW.TrodAll enc Try.prog W 0 (fun _ => true) true Try.f9.params.toList args.toList ds p := hA0
  rw [Try.params9] at hA hval
  obtain ⟨v0, vs0, d0, ds0, p0, q0, hargs, rfl, rfl, h0, r0⟩ := trodAll_cons hA
  obtain ⟨v1, vs1, d1, ds1, p1, q1, rfl, rfl, rfl, h1, r1⟩ := trodAll_cons r0
  obtain ⟨rfl, rfl, rfl⟩ := trodAll_nil r1
  obtain rfl : args = #[v0, v1] := by cases args; simp_all
  obtain ⟨rfl, rfl⟩ := trodVars_none hV
  obtain ⟨a0, rfl, rfl, rfl, w0⟩ := open_int Try.underlying3 (hval 0 3 v0 rfl rfl) h0
  obtain ⟨a1, rfl, rfl, rfl, w1⟩ := open_int Try.underlying5 (hval 1 5 v1 rfl rfl) h1
  clear hA0 hval0
  refine (lexNames_walk a0 a1 w0 w1 W).mono fun e W' ⟨he, bel⟩ => ?_
  subst he
  exact ⟨_, rfl, _, _, _, [], _, [], hW', trodAll_mk1 (shut_bool Try.underlying4 _), (trodAll_cons_mk (shut_int Try.underlying3 w0) (trodAll_cons_mk (shut_int Try.underlying5 w1) trodAll_mk0)), rfl, bel.frame _, fun h => by cases h⟩

theorem lexNames_holds : Rows.LexNamesSaid :=
  OpenClaim.holds_of_wide 9 Try.f9 rfl rfl rfl rfl rfl rfl rfl ⟨rfl, rfl, rfl, rfl, rfl⟩ rfl rfl rfl rfl rfl (by kernel_rfl) Try.func9 (by kernel_rfl)
    (of_decide_eq_true (by kernel_rfl)) (by unfold Func.isWrapper; first | (rw [if_pos (by decide +kernel)]; kernel_rfl) | (rw [if_neg (by decide +kernel)]; exact ⟨rfl, rfl⟩))
    (fun os started H enc _ => lexNames_lifted os started H enc)
#print axioms lexNames_holds
end Go.Proofs.Ytlnfilefpehnbaa
