/-
  LexNumbers: the digits of every number of 32 bits are read as it, up to the greatest one; greater ones, and ones with a nought ahead, are none.
  Conditions: none.
-/
import Derived.Test.YtlnfilefpehnbaaRows
import Derived.Test.YtlnfilefpehnbaaPlainNum
import Derived.Test.YtlnfilefpehnbaaNums
import Derived.WalkKit
import Derived.ProofKit
import Derived.OpenShut
import Derived.ShutString
import Derived.ChangeOld
import Derived.Below
import Derived.Lib.SmallJoins
namespace Go.Proofs.Ytlnfilefpehnbaa
open Go.ChangeShapes Go.WideShapes Go.ChangeAt Go.RowKit
open Go.ChangeMaps (open_string shut_string)

theorem size_list (T : ByteArray) : T.data.toList.length = T.size := Array.length_toList

set_option maxRecDepth 100000 in
set_option maxHeartbeats 4000000 in
theorem lexNumbers_walk (n : Int) (nought : Bool) (hn : (Lit.int .u32 n).wf = true) (w : World) :
    Calls Try.prog 5 #[.int .u32 n, .bool nought] w fun e w' => e = .returned (.bool true) ∧ Below w.heap.size w w' := by
  obtain ⟨hn0, hn1⟩ := bounds_u32 hn
  clear hn
  obtain ⟨N, rfl⟩ : ∃ N : Nat, n = (N : Int) := ⟨n.toNat, by omega⟩
  go_enter Try.func5, Try.ntmps5
  go_wp2_with fail
  go_loopw [5, 6] (fun v i wr => ∃ (T : ByteArray) (k : Nat), Dg N T.data.toList k ∧ k ≤ N ∧ T.size ≤ 10 ∧ v = .string T ∧ i = .int .u32 k ∧ Below w.heap.size w wr) (fun v i _ => (intOf i).toNat + (if strLen v = 0 then 1 else 0))
  case atStart => exact ⟨_, N, Dg.start N, by omega, by decide, rfl, rfl, Below.refl _ _⟩
  case round =>
    obtain ⟨T, k, hD, hk, hT, rfl, rfl, hb0⟩ := hrel
    have hTl := size_list T
    by_cases hin : 0 < k ∨ T.data.toList = []
    · have hT9 : T.size ≤ 9 := by
        rcases hin with h | h
        · rw [← hTl]; exact hD.few (by omega) h
        · rw [← hTl, h]; decide
      have hc0 : 48 + k % 10 < 256 := by omega
      obtain ⟨c, hc⟩ : ∃ c : UInt8, c.toNat = 48 + k % 10 := ⟨UInt8.ofNat (48 + k % 10), UInt8.toNat_ofNat_of_lt' hc0⟩
      have hD' := hD.step hin hc
      obtain ⟨T1, hT1⟩ : ∃ T1 : ByteArray, (⟨[c].toArray⟩ : ByteArray) = T1 := ⟨_, rfl⟩
      have hcv : (convert 38 9 (.slice (some ⟨wr.heap.size, 0, none⟩) 1 1)).run Try.prog (wr.alloc (.cells #[.int .u8 (c.toNat : Int)] 5)) = .ok (.string T1) (wr.alloc (.cells #[.int .u8 (c.toNat : Int)] 5)) := by
        rw [← hT1]
        exact cv_bytes (wr.alloc (.cells #[.int .u8 (c.toNat : Int)] 5)) wr.heap.size 1 [c] (fun j hj => by
          obtain rfl : j = 0 := by simpa using hj
          rw [cell_of_row _ wr.heap.size 0 #[.int .u8 (c.toNat : Int)] 5 (0, 0) (heap_alloc_new wr _)]
          rfl)
      have hT1s : T1.size ≤ 1 := by rw [← hT1]; exact Nat.le_refl 1
      have hT1d : T1.data.toList = [c] := by rw [← hT1]
      have hci : 48 + (k : Int) % 10 = (c.toNat : Int) := by omega
      have HT1 := Lib.hid hT1d
      have HD := Lib.hid hD'
      have hb1 : Below w.heap.size w (wr.alloc (.cells #[.int .u8 (c.toNat : Int)] 5)) := hb0.alloc hb0.size _
      clear hT1 hT1d hD' hc hc0 hTl
      have hcase : 0 < k ∨ (k ≤ 0 ∧ T.toList = []) := by
        rcases hin with h | h
        · exact .inl h
        · rcases Nat.eq_zero_or_pos k with h0 | h0
          · exact .inr ⟨by omega, by rw [Lib.toList_data]; exact h⟩
          · exact .inl h0
      clear hin
      have Hrel : Hid (Dg N (T1 ++ T).data.toList (k / 10)) := by
        show Dg N (T1 ++ T).data.toList (k / 10)
        rw [Joins.data_append, HT1.out]
        exact HD.out
      have Hsz : Hid ((T1 ++ T).size ≤ 10 ∧ 0 < (T1 ++ T).size) := by
        have h := size_list (T1 ++ T)
        rw [Joins.data_append, List.length_append, HT1.out, size_list] at h
        have h1 : ([c] : List UInt8).length = 1 := rfl
        rw [h1] at h
        exact ⟨by omega, by omega⟩
      rcases hcase with hk0 | ⟨hk0, hTe⟩
      all_goals
        go_wp2_with fail
        go_roundw
        case rel => exact ⟨T1 ++ T, k / 10, Hrel.out, by omega, Hsz.out.1, rfl, by go_num, hb1⟩
        case measure =>
          have h1 := Hsz.out.2
          show ((k : Int) / 10).toNat + (if (T1 ++ T).size = 0 then 1 else 0) < (k : Int).toNat + (if T.size = 0 then 1 else 0)
          rw [if_neg (by omega)]
          first
            | (have hT0 : T.size = 0 := by
                have h := congrArg List.length hTe
                rw [Lib.toList_data, size_list] at h
                exact h
               rw [if_pos hT0]; omega)
            | (split <;> omega)
    · have hk0 : k ≤ 0 := by omega
      have hTn : T.data.toList ≠ [] := fun e => hin (.inr e)
      have hTe : T.toList.isEmpty = false := by
        rw [Lib.toList_data]
        match T.data.toList, hTn with
        | b :: l, _ => rfl
      clear hin
      have hval : val T.data.toList = N := by
        have h := hD.val
        rw [show k = 0 from by omega, Nat.zero_mul, Nat.zero_add] at h
        exact h
      have hhead := hD.head hTn (by omega)
      have hdig := hD.dig
      cases nought
      · -- no nought ahead
        obtain ⟨g1, g2⟩ := lexR_num (T ++ ⟨#[32, 120]⟩) T.data.toList hTn hdig (by rw [Joins.data_append])
        have hs : (T ++ ⟨#[32, 120]⟩).size ≤ 140737488351232 := by
          rw [← size_list, Joins.data_append, List.length_append, size_list]
          have : ([32, 120] : List UInt8).length = 2 := rfl
          show T.size + ([32, 120] : List UInt8).length ≤ _
          omega
        have hnz : ¬ (1 < T.data.toList.length ∧ T.data.toList.headD 0 = 48) := by
          rintro ⟨h1, h2⟩
          rcases hhead with h | h
          · exact h h2
          · rw [h] at h1; simp at h1
        rw [hval] at g1 g2
        have G1 := Lib.hid g1
        have G2 := Lib.hid g2
        have Hnz := Lib.hid hnz
        clear g1 g2 hnz hval hhead hdig hTn hTl hD
        go_wp2_with fail
        generalize T ++ ⟨#[32, 120]⟩ = S at *
        by_cases hbig : 2147483647 < N
        · have hR := G1.out (.inl hbig)
          clear G1 G2
          refine (lex_bad hR _ hs).mono ?_
          clear hR
          rintro e w1 ⟨A, cap, rfl, hb1⟩
          go_wp2_with fail
          refine (reads_any _).mono ?_
          rintro e w2 ⟨rfl, hb2⟩
          go_wp2
          go_ret
          have hb01 := hb0.trans (hb1.mono hb0.size)
          exact ⟨rfl, hb01.trans (hb2.mono hb01.size)⟩
        · have hR := G2.out (fun h => h.elim hbig Hnz.out)
          clear G1 G2
          refine (lex_good hR _ hs (n := 2) rfl).mono ?_
          clear hR
          rintro e w1 ⟨A, cap, rfl, hown, hb1⟩
          obtain ⟨g, rfl, _, hg, _, hcell⟩ := own_slice hown (show 0 < 2 by decide)
          have c0 := hcell 2 _ rfl
          have c1 := hcell 4 _ rfl
          clear hcell hown
          go_wp2_with fail
          refine (reads_any _).mono ?_
          rintro e w2 ⟨rfl, hb2⟩
          rw [← hb2.cell (p := ⟨g, 2, none⟩) hg] at c0
          rw [← hb2.cell (p := ⟨g, 4, none⟩) hg] at c1
          go_wp2
          go_ret
          have hb01 := hb0.trans (hb1.mono hb0.size)
          exact ⟨rfl, hb01.trans (hb2.mono hb01.size)⟩
      · -- a nought ahead
        have hd2 : ∀ b ∈ (48 :: T.data.toList : List UInt8), digU b = true := by
          intro b hb
          rcases List.mem_cons.1 hb with rfl | hb
          · decide
          · exact hdig b hb
        have hlen : 0 < T.data.toList.length := List.length_pos_iff.2 hTn
        obtain ⟨g1, -⟩ := lexR_num (⟨#[48]⟩ ++ T ++ ⟨#[32, 120]⟩) (48 :: T.data.toList) (by simp) hd2 (by rw [Joins.data_append, Joins.data_append]; rfl)
        have hR := g1 (.inr ⟨by rw [List.length_cons]; omega, rfl⟩)
        have hs1 : ((⟨#[48]⟩ : ByteArray) ++ T).size ≤ 11 := by
          rw [← size_list, Joins.data_append, List.length_append, size_list]
          show ([48] : List UInt8).length + T.size ≤ _
          have : ([48] : List UInt8).length = 1 := rfl
          omega
        have hs : (⟨#[48]⟩ ++ T ++ ⟨#[32, 120]⟩ : ByteArray).size ≤ 140737488351232 := by
          rw [← size_list, Joins.data_append, List.length_append, size_list]
          show ((⟨#[48]⟩ : ByteArray) ++ T).size + ([32, 120] : List UInt8).length ≤ _
          have : ([32, 120] : List UInt8).length = 2 := rfl
          omega
        have HR := Lib.hid hR
        clear g1 hR hval hhead hdig hTn hTl hD hd2 hlen
        go_wp2_with fail
        refine (lex_bad HR.out _ hs).mono ?_
        rintro e w1 ⟨A, cap, rfl, hb1⟩
        go_wp2_with fail
        refine (reads_any _).mono ?_
        rintro e w2 ⟨rfl, hb2⟩
        go_wp2
        go_ret
        have hb01 := hb0.trans (hb1.mono hb0.size)
        exact ⟨rfl, hb01.trans (hb2.mono hb01.size)⟩

theorem lexNumbers_own : ownKnob Try.prog.godebug = none := by kernel_rfl
set_option maxRecDepth 100000 in
theorem lexNumbers_lifted (os : Os) (started : os.Started) (H : Type) (enc : TypeId × Value → H) :
    ReturnsInHanded {} Try.checked os 5 .any (Rows.lexNumbersSpec.pre6 enc Try.prog Try.f5 Rows.lexNumbersRow.domain false) (Rows.lexNumbersSpec.post enc Try.prog Try.f5 false true false false) := by
  refine returnsInHanded_of_change (C := Try.checked) lexNumbers_own started (by kernel_rfl) Try.func5
    (ChangeSpec.witness6 (enc := enc) (C := Try.checked) false ⟨#[], #[.int .u32 0, .bool false], []⟩ 8 (by kernel_rfl) (by kernel_rfl) (by kernel_rfl) (by kernel_rfl)) ?_
  intro W base args ds gs before hval0 hW _ _
  have hval : ∀ (j : Nat) t v, Try.f5.params[j]? = some t → args[j]? = some v → Value.okWide Try.prog W .any base t v := hval0
  have hW' := hW
  obtain ⟨p, q, hA0, hV, rfl, _, _⟩ := hW
  have hA : DataW.TrodAll enc Try.prog W 0 (fun _ => true) true Try.f5.params.toList args.toList ds p := hA0
  rw [Try.params5] at hA hval
  obtain ⟨v0, vs0, d0, ds0, p0, q0, hargs, rfl, rfl, h0, r0⟩ := trodAll_cons hA
  obtain ⟨v1, vs1, d1, ds1, p1, q1, rfl, rfl, rfl, h1, r1⟩ := trodAll_cons r0
  obtain ⟨rfl, rfl, rfl⟩ := trodAll_nil r1
  obtain rfl : args = #[v0, v1] := by cases args; simp_all
  obtain ⟨rfl, rfl⟩ := trodVars_none hV
  obtain ⟨a0, rfl, rfl, rfl, w0⟩ := open_int Try.underlying37 (hval 0 37 v0 rfl rfl) h0
  obtain ⟨a1, rfl, rfl, rfl⟩ := open_bool Try.underlying4 (hval 1 4 v1 rfl rfl) h1
  clear hA0 hval0
  refine (lexNumbers_walk a0 a1 w0 W).mono fun e W' ⟨he, bel⟩ => ?_
  subst he
  exact ⟨_, rfl, _, _, _, [], _, [], hW', trodAll_mk1 (shut_bool Try.underlying4 _), (trodAll_cons_mk (shut_int Try.underlying37 w0) (trodAll_cons_mk (shut_bool Try.underlying4 a1) trodAll_mk0)), rfl, bel.frame _, fun h => by cases h⟩

theorem lexNumbers_holds : Rows.LexNumbersSaid :=
  OpenClaim.holds_of_wide 5 Try.f5 rfl rfl rfl rfl rfl rfl rfl ⟨rfl, rfl, rfl, rfl, rfl⟩ rfl rfl rfl rfl rfl (by kernel_rfl) Try.func5 (by kernel_rfl)
    (of_decide_eq_true (by kernel_rfl)) (by unfold Func.isWrapper; first | (rw [if_pos (by decide +kernel)]; kernel_rfl) | (rw [if_neg (by decide +kernel)]; exact ⟨rfl, rfl⟩))
    (fun os started H enc _ => lexNumbers_lifted os started H enc)
#print axioms lexNumbers_holds
end Go.Proofs.Ytlnfilefpehnbaa
