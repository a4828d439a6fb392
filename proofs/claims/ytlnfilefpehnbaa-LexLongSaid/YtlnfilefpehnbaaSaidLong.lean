/-
  LexLong: two thousand signs are told as so many words, one more gives the error of too many; for every n.
  Conditions: none.
-/
import Derived.Test.YtlnfilefpehnbaaRows
import Derived.Test.YtlnfilefpehnbaaPlainList
import Derived.Test.YtlnfilefpehnbaaNums
import Derived.WalkKit
import Derived.ProofKit
import Derived.OpenShut
import Derived.ShutString
import Derived.ChangeOld
import Derived.Below
namespace Go.Proofs.Ytlnfilefpehnbaa
open Go.ChangeShapes Go.WideShapes Go.ChangeAt Go.RowKit
open Go.ChangeMaps (open_string shut_string)

/-- Signs side by side: so many words. -/
theorem lexW_semis : ∀ (k p : Nat) (acc : List Tok), ∃ ts : List Tok, ts.length = k ∧ lexW (List.replicate k 59) p acc = .ok (acc ++ ts) := by
  intro k
  induction k with
  | zero => intro p acc; exact ⟨[], rfl, by rw [List.replicate_zero, lexW_nil, List.append_nil]⟩
  | succ k ih =>
    intro p acc
    have hw : wordE (List.replicate (k + 1) 59) = .ok (3, 1, 0) := by
      have hs : sgnLen (List.replicate (k + 1) 59) = 1 := by
        unfold sgnLen
        rw [List.replicate_succ, List.headD_cons]
        rfl
      unfold wordE
      rw [if_neg (by rw [List.replicate_succ, List.headD_cons]; decide), if_neg (by rw [List.replicate_succ, List.headD_cons]; decide)]
      unfold sgnE
      rw [hs]
      rfl
    rw [lexW_word (by simp) (by rw [List.replicate_succ, List.headD_cons]; decide) hw]
    obtain ⟨ts, hl, h⟩ := ih (p + 1) (acc ++ [⟨3, ofL ((List.replicate (k + 1) 59).take 1), 0, p⟩])
    refine ⟨⟨3, ofL ((List.replicate (k + 1) 59).take 1), 0, p⟩ :: ts, by simp [hl], ?_⟩
    rw [show (List.replicate (k + 1) (59 : UInt8)).drop 1 = List.replicate k 59 from by simp, h, List.append_assoc]
    rfl
theorem lexR_semis (s : ByteArray) (k : Nat) (h : s.data.toList = List.replicate k 59) : (k ≤ 2000 → ∃ acc : List Tok, acc.length = k ∧ lexR s = (acc, 0, 0)) ∧ (2000 < k → lexR s = ([], k, 4)) := by
  rw [lexR_lexF, h]
  obtain ⟨ts, hl, hw⟩ := lexW_semis k 0 []
  unfold lexF
  rw [hw, List.nil_append]
  refine ⟨fun hk => ⟨ts, hl, ?_⟩, fun hk => ?_⟩
  · show (if 2000 < ts.length then _ else _) = _
    rw [if_neg (by omega)]
  · show (if 2000 < ts.length then _ else _) = _
    rw [if_pos (by omega), List.length_replicate]

/-- The first k bytes are signs. -/
def Filled (cur : Array Value) (k : Nat) : Prop := ∀ j, j < k → cur[j]? = some (.int .u8 59)

set_option maxHeartbeats 2000000 in
theorem lexLong_walk (n : Int) (_ : (Lit.int .i64 n).wf = true) (w : World) :
    Calls Try.prog 7 #[.int .i64 n] w fun e w' => e = .returned (.bool true) ∧ Below w.heap.size w w' := by
  obtain ⟨u, hu⟩ : ∃ u : Int, IntKind.u64.wrap n = u := ⟨_, rfl⟩
  have hu0 : 0 ≤ u := by rw [← hu]; exact u64_pos n
  obtain ⟨K, hK⟩ : ∃ K : Nat, 1995 + u % 10 = (K : Int) := ⟨(1995 + u % 10).toNat, by omega⟩
  have hK1 : 1995 ≤ K := by omega
  have hK2 : K ≤ 2004 := by omega
  obtain ⟨M, hM, hmk⟩ := mk_bytes K (by omega)
  go_enter Try.func7, Try.ntmps7
  go_wp2_with fail
  clear hmk hu hK
  go_loopw [5] (fun i wr => ∃ (k : Nat) (cur : Array Value), k ≤ K ∧ i = .int .i64 k ∧ Hid (cur.size = K) ∧ Filled cur k ∧ wr = w.alloc (.cells cur 5)) (fun i _ => K - (intOf i).toNat)
  case atStart => exact ⟨0, M, by omega, rfl, hM, fun j h => by omega, rfl⟩
  case round =>
    obtain ⟨k, cur, hk, rfl, hsz, hfill, rfl⟩ := hrel
    by_cases hlt : k < K
    · obtain ⟨x, hx⟩ : ∃ x, cur[k]? = some x := ⟨cur[k]'(by rw [hsz.out]; exact hlt), Array.getElem?_eq_getElem _⟩
      have hc : (w.alloc (.cells cur 5)).cell? ⟨w.heap.size, k, none⟩ = some x := by
        rw [cell_of_row _ w.heap.size k cur 5 (0, 0) (heap_alloc_new w _)]
        exact hx
      have Hx := Lib.hid hx
      clear hx
      go_wp2
      go_roundw
      case rel =>
        refine ⟨k + 1, cur.setIfInBounds k (.int .u8 59), by omega, by go_num, ?_, fun j hj => ?_, rfl⟩
        · show (cur.setIfInBounds k (.int .u8 59)).size = K
          rw [Array.size_setIfInBounds]
          exact hsz.out
        · rw [Array.getElem?_setIfInBounds]
          have hs := hsz.out
          by_cases e : k = j
          · rw [if_pos e, if_pos (by omega)]
          · rw [if_neg e]
            exact hfill j (by omega)
      case measure => simp [intOf]; omega
    · obtain rfl : k = K := by omega
      have hl : (List.replicate k (59 : UInt8)).length = k := by simp
      have hcv := cv_bytes (w.alloc (.cells cur 5)) w.heap.size k (List.replicate k 59) (fun j hj => by
        rw [cell_of_row _ w.heap.size j cur 5 (0, 0) (heap_alloc_new w _), hfill j (by rw [hl] at hj; exact hj), List.getElem_replicate]
        rfl)
      rw [hl] at hcv
      clear hl
      obtain ⟨T, hT⟩ : ∃ T : ByteArray, (⟨(List.replicate k (59 : UInt8)).toArray⟩ : ByteArray) = T := ⟨_, rfl⟩
      rw [hT] at hcv
      have hTs : T.size ≤ 140737488351232 := by rw [← hT]; show (List.replicate k (59 : UInt8)).toArray.size ≤ _; simp; omega
      obtain ⟨hgood, hbad⟩ := lexR_semis T k (by rw [← hT])
      clear hT
      go_wp2_with fail
      by_cases h2 : k ≤ 2000
      · obtain ⟨acc, hacc, hR⟩ := hgood h2
        clear hgood hbad
        refine (lex_good hR _ hTs hacc).mono ?_
        clear hR hacc
        rintro e w1 ⟨A, c, rfl, _, hb1⟩
        go_wp2_with fail
        refine (reads_any w1).mono ?_
        rintro e w2 ⟨rfl, hb2⟩
        go_wp2
        go_ret
        have hb0 : Below w.heap.size w (w.alloc (.cells cur 5)) := (Below.refl _ _).alloc (Nat.le_refl _) _
        have hb01 := hb0.trans (hb1.mono hb0.size)
        exact ⟨rfl, hb01.trans (hb2.mono hb01.size)⟩
      · have hR := hbad (by omega)
        clear hgood hbad
        refine (lex_bad hR _ hTs).mono ?_
        clear hR
        rintro e w1 ⟨A, c, rfl, hb1⟩
        go_wp2_with fail
        refine (reads_any w1).mono ?_
        rintro e w2 ⟨rfl, hb2⟩
        go_wp2
        go_ret
        have hb0 : Below w.heap.size w (w.alloc (.cells cur 5)) := (Below.refl _ _).alloc (Nat.le_refl _) _
        have hb01 := hb0.trans (hb1.mono hb0.size)
        exact ⟨rfl, hb01.trans (hb2.mono hb01.size)⟩

theorem lexLong_own : ownKnob Try.prog.godebug = none := by kernel_rfl
set_option maxRecDepth 100000 in
theorem lexLong_lifted (os : Os) (started : os.Started) (H : Type) (enc : TypeId × Value → H) :
    ReturnsInHanded {} Try.checked os 7 .any (Rows.lexLongSpec.pre6 enc Try.prog Try.f7 Rows.lexLongRow.domain false) (Rows.lexLongSpec.post enc Try.prog Try.f7 false true false false) := by
  refine returnsInHanded_of_change (C := Try.checked) lexLong_own started (by kernel_rfl) Try.func7
    (ChangeSpec.witness6 (enc := enc) (C := Try.checked) false ⟨#[], #[.int .i64 0], []⟩ 8 (by kernel_rfl) (by kernel_rfl) (by kernel_rfl) (by kernel_rfl)) ?_
  intro W base args ds gs before hval0 hW _ _
  have hval : ∀ (j : Nat) t v, Try.f7.params[j]? = some t → args[j]? = some v → Value.okWide Try.prog W .any base t v := hval0
  have hW' := hW
  obtain ⟨p, q, hA0, hV, rfl, _, _⟩ := hW
  have hA : DataW.TrodAll enc Try.prog W 0 (fun _ => true) true Try.f7.params.toList args.toList ds p := hA0
  rw [Try.params7] at hA hval
  obtain ⟨v0, vs0, d0, ds0, p0, q0, hargs, rfl, rfl, h0, r0⟩ := trodAll_cons hA
  obtain ⟨rfl, rfl, rfl⟩ := trodAll_nil r0
  obtain rfl : args = #[v0] := by cases args; simp_all
  obtain ⟨rfl, rfl⟩ := trodVars_none hV
  obtain ⟨a0, rfl, rfl, rfl, w0⟩ := open_int Try.underlying3 (hval 0 3 v0 rfl rfl) h0
  clear hA0 hval0
  refine (lexLong_walk a0 w0 W).mono fun e W' ⟨he, bel⟩ => ?_
  subst he
  exact ⟨_, rfl, _, _, _, [], _, [], hW', trodAll_mk1 (shut_bool Try.underlying4 _), (trodAll_cons_mk (shut_int Try.underlying3 w0) trodAll_mk0), rfl, bel.frame _, fun h => by cases h⟩

theorem lexLong_holds : Rows.LexLongSaid :=
  OpenClaim.holds_of_wide 7 Try.f7 rfl rfl rfl rfl rfl rfl rfl ⟨rfl, rfl, rfl, rfl, rfl⟩ rfl rfl rfl rfl rfl (by kernel_rfl) Try.func7 (by kernel_rfl)
    (of_decide_eq_true (by kernel_rfl)) (by unfold Func.isWrapper; first | (rw [if_pos (by decide +kernel)]; kernel_rfl) | (rw [if_neg (by decide +kernel)]; exact ⟨rfl, rfl⟩))
    (fun os started H enc _ => lexLong_lifted os started H enc)
#print axioms lexLong_holds
end Go.Proofs.Ytlnfilefpehnbaa
