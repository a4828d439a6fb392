/-
  LexSigns: of all two signs side by side lex.Lex tells the same words, or the same place and error, as the document's answer; each word is a sign.
  Conditions: none.
-/
import Derived.Test.YtlnfilefpehnbaaRows
import Derived.Test.YtlnfilefpehnbaaReadsRef
import Derived.WalkKit
import Derived.ProofKit
import Derived.OpenShut
import Derived.ShutString
import Derived.ChangeOld
import Derived.Below
import Derived.Lib.SmallJoins
import Derived.Deep.QuietTactic
import Derived.BigQuiet
import Derived.RegionTactic
namespace Go.Proofs.Ytlnfilefpehnbaa
open Go.ChangeShapes Go.WideShapes Go.ChangeAt Go.RowKit
open Go.ChangeMaps (open_string shut_string)

def sg16 : List UInt8 := [123, 125, 40, 41, 59, 44, 46, 61, 60, 62, 43, 45, 42, 47, 37, 33]
theorem sg_all : ((List.range 16).all fun i => (List.range 16).all fun j => (lexF [sg16.getD i 0, sg16.getD j 0]).1.all fun t => t.kind == 3) = true := by decide +kernel
theorem sg_kind {i j : Nat} (hi : i < 16) (hj : j < 16) {s : ByteArray} (hs : s.data.toList = [sg16.getD i 0, sg16.getD j 0]) {acc : List Tok} (h : lexR s = (acc, 0, 0)) : ∀ t ∈ acc, t.kind = 3 := by
  intro t ht
  have h1 := List.all_eq_true.1 (List.all_eq_true.1 sg_all i (List.mem_range.2 hi)) j (List.mem_range.2 hj)
  rw [lexR_lexF, hs] at h
  rw [h] at h1
  simpa using List.all_eq_true.1 h1 t ht

set_option maxRecDepth 100000 in
set_option maxHeartbeats 8000000 in
theorem lexSigns_walk (a b : Int) (ha : (Lit.int .u8 a).wf = true) (hb : (Lit.int .u8 b).wf = true) (w : World) :
    Calls Try.prog 10 #[.int .u8 a, .int .u8 b] w fun e w' => e = .returned (.bool true) ∧ Below w.heap.size w w' := by
  obtain ⟨ha0, ha1⟩ := bounds_u8 ha
  obtain ⟨hb0, hb1⟩ := bounds_u8 hb
  clear ha hb
  have ha16 : 0 ≤ a % 16 := by omega
  have ha17 : a % 16 < 16 := by omega
  have hb16 : 0 ≤ b % 16 := by omega
  have hb17 : b % 16 < 16 := by omega
  have hwa : IntKind.i64.wrap a = a := IntWalk.i64_in _ (by omega)
  have hwb : IntKind.i64.wrap b = b := IntWalk.i64_in _ (by omega)
  have hta : a.tmod 16 = a % 16 := Int.tmod_eq_emod_of_nonneg ha0
  have htb : b.tmod 16 = b % 16 := Int.tmod_eq_emod_of_nonneg hb0
  go_enter Try.func10, Try.ntmps10
  go_wp2_with fail
  obtain ⟨O, hO, hOs, hOd⟩ : ∃ O : ByteArray, (⟨#[123, 125, 40, 41, 59, 44, 46, 61, 60, 62, 43, 45, 42, 47, 37, 33]⟩ : ByteArray) = O ∧ O.size = 16 ∧ O.data.toList = sg16 := ⟨_, rfl, rfl, rfl⟩
  rw [hO]
  have HOd := Lib.hid hOd
  have hiO : (a % 16).toNat < O.size := by rw [hOs]; omega
  have hjO : (b % 16).toNat < O.size := by rw [hOs]; omega
  obtain ⟨x, hx⟩ : ∃ x, O[(a % 16).toNat] = x := ⟨_, rfl⟩
  obtain ⟨y, hy⟩ : ∃ y, O[(b % 16).toNat] = y := ⟨_, rfl⟩
  obtain ⟨T, hT⟩ : ∃ T : ByteArray, (⟨[x, y].toArray⟩ : ByteArray) = T := ⟨_, rfl⟩
  have HTd : Hid (T.data.toList = [sg16.getD (a % 16).toNat 0, sg16.getD (b % 16).toNat 0]) := by
    show T.data.toList = _
    rw [← hT, ← HOd.out, getD_eq O _ hiO, getD_eq O _ hjO, hx, hy]
  have hTs : T.size ≤ 2 := by rw [← hT]; exact Nat.le_refl 2
  have hcell : ∀ k (hk : k < [x, y].length), (w.alloc (.cells #[.int .u8 (x.toNat : Int), .int .u8 (y.toNat : Int)] 5)).cell? ⟨w.heap.size, k, none⟩ = some (.int .u8 ([x, y][k].toNat : Int)) := by
    intro k hk
    rw [cell_of_row _ w.heap.size k #[.int .u8 (x.toNat : Int), .int .u8 (y.toNat : Int)] 5 (0, 0) (heap_alloc_new w _)]
    match k, hk with
    | 0, _ => rfl
    | 1, _ => rfl
    | k + 2, hk => exact absurd (show k + 2 < 2 from hk) (by omega)
  have hcv : (convert 38 9 (.slice (some ⟨w.heap.size, 0, none⟩) 2 2)).run Try.prog (w.alloc (.cells #[.int .u8 (x.toNat : Int), .int .u8 (y.toNat : Int)] 5)) = .ok (.string T) (w.alloc (.cells #[.int .u8 (x.toNat : Int), .int .u8 (y.toNat : Int)] 5)) := by
    rw [← hT]
    exact cv_bytes _ w.heap.size 2 [x, y] hcell
  have hcv2 : (convert 38 9 (.slice (some ⟨w.heap.size, 0, none⟩) 2 2)).run Try.prog (w.alloc (.cells #[.int .u8 (x.toNat : Int), .int .u8 (y.toNat : Int)] 5)).drew = .ok (.string T) (w.alloc (.cells #[.int .u8 (x.toNat : Int), .int .u8 (y.toNat : Int)] 5)).drew := by
    rw [← hT]
    exact cv_bytes (w.alloc (.cells #[.int .u8 (x.toNat : Int), .int .u8 (y.toNat : Int)] 5)).drew w.heap.size 2 [x, y] hcell
  clear hT hO hOd hcell
  go_region
  go_wp2_with fail
  have hs1 : T.size ≤ 140737488351232 := by omega
  have hs2 : T.size ≤ 2147483647 := by omega
  have hbW : Below w.heap.size w (w.alloc (.cells #[.int .u8 (x.toNat : Int), .int .u8 (y.toNat : Int)] 5)).drew := (below_new (Below.refl _ _) (Nat.le_refl _) _).drew
  clear hcv hcv2 hwa hwb hta htb hx hy
  generalize (w.alloc (.cells #[.int .u8 (x.toNat : Int), .int .u8 (y.toNat : Int)] 5)).drew = W at *
  rcases lexR_cases T with ⟨p, x, hR, hx, hp⟩ | ⟨acc, hR⟩
  · refine (lex_bad hR _ hs1).mono ?_
    rintro e w1 ⟨A1, c1, rfl, hb1⟩
    go_wp2_with fail
    refine (rlex_bad hR _ hs2).mono ?_
    rintro e w2 ⟨A2, c2, rfl, hb2⟩
    go_wp2_with fail
    refine (reads_any _).mono ?_
    rintro e w3 ⟨rfl, hb3⟩
    have hb := hbW.trans ((hb1.trans ((hb2.trans (hb3.mono hb2.size)).mono hb1.size)).mono hbW.size)
    clear hR hx hb1 hb2 hb3 hbW
    go_wp2_with fail
    go_loop [13] (fun i => i = .int .i64 0) (fun _ => 0)
    case atStart => rfl
    case round =>
      subst hrel
      go_wp2_with fail
      go_ret
      exact ⟨rfl, hb⟩
  · have Hk := Lib.hid (sg_kind (by omega) (by omega) HTd.out hR)
    obtain ⟨N, hN⟩ : ∃ N, acc.length = N := ⟨_, rfl⟩
    have hN2 : N ≤ 2000 := by rw [← hN]; exact lexR_len hR
    have HN := Lib.hid hN
    have HR := Lib.hid hR
    clear hN hR
    refine (lex_good HR.out _ hs1 HN.out).mono ?_
    rintro e w1 ⟨A1, c1, rfl, own1, hb1⟩
    go_wp2_with fail
    refine (rlex_good HR.out _ hs2 HN.out).mono ?_
    rintro e w2 ⟨A2, c2, rfl, own2, hb2⟩
    go_wp2_with fail
    refine (reads_any _).mono ?_
    rintro e w3 ⟨rfl, hb3⟩
    have hb := hbW.trans ((hb1.trans ((hb2.trans (hb3.mono hb2.size)).mono hb1.size)).mono hbW.size)
    have own1' := own_later own1 (hb2.trans (hb3.mono hb2.size))
    have own2' := own_later own2 hb3
    clear own1 own2 hb1 hb2 hb3 hs1 hs2 hbW
    go_wp2_with fail
    go_loopw [13] (fun i wr => ∃ (k m : Nat), k ≤ N ∧ i = .int .i64 k ∧ wr = w3.drewN m) (fun i _ => N - (intOf i).toNat)
    case atStart => exact ⟨0, 0, by omega, rfl, rfl⟩
    case round =>
      obtain ⟨k, m, hk, rfl, rfl⟩ := hrel
      by_cases hlt : k < N
      · obtain ⟨g1, rfl, _, hg1, hn1, hc1⟩ := own_slice own1' (by omega)
        obtain ⟨g2, rfl, _, hg2, hn2, hc2⟩ := own_slice own2' (by omega)
        obtain ⟨t, ht⟩ : ∃ t, acc[k]? = some t := ⟨acc[k]'(by rw [HN.out]; exact hlt), List.getElem?_eq_getElem _⟩
        have htk := Hk.out t (List.mem_of_getElem? ht)
        obtain ⟨q0, q1, q2, q3⟩ := tcells_at acc k t ht
        rw [htk] at q0
        have a0 := hc1 _ _ q0
        have a1 := hc1 _ _ q1
        have b1 := hc2 _ _ q1
        clear q0 q1 q2 q3 hc1 hc2 ht own1' own2' htk
        go_wp2_with fail
        go_quiet (fail)
        go_wp2_with fail
        go_roundw
        case rel => exact ⟨k + 1, _, by omega, by go_num, rfl⟩
        case measure => simp [intOf]; omega
      · go_wp2_with fail
        go_ret
        exact ⟨rfl, below_drewN hb _⟩

theorem lexSigns_own : ownKnob Try.prog.godebug = none := by kernel_rfl
set_option maxRecDepth 100000 in
theorem lexSigns_lifted (os : Os) (started : os.Started) (H : Type) (enc : TypeId × Value → H) :
    ReturnsInHanded {} Try.checked os 10 .any (Rows.lexSignsSpec.pre6 enc Try.prog Try.f10 Rows.lexSignsRow.domain false) (Rows.lexSignsSpec.post enc Try.prog Try.f10 false true false false) := by
  refine returnsInHanded_of_change (C := Try.checked) lexSigns_own started (by kernel_rfl) Try.func10
    (ChangeSpec.witness6 (enc := enc) (C := Try.checked) false ⟨#[], #[.int .u8 0, .int .u8 0], []⟩ 8 (by kernel_rfl) (by kernel_rfl) (by kernel_rfl) (by kernel_rfl)) ?_
  intro W base args ds gs before hval0 hW _ _
  have hval : ∀ (j : Nat) t v, Try.f10.params[j]? = some t → args[j]? = some v → Value.okWide Try.prog W .any base t v := hval0
  have hW' := hW
  obtain ⟨p, q, hA0, hV, rfl, _, _⟩ := hW
  have hA : DataW.TrodAll enc Try.prog W 0 (fun _ => true) true Try.f10.params.toList args.toList ds p := hA0
  rw [Try.params10] at hA hval
  obtain ⟨v0, vs0, d0, ds0, p0, q0, hargs, rfl, rfl, h0, r0⟩ := trodAll_cons hA
  obtain ⟨v1, vs1, d1, ds1, p1, q1, rfl, rfl, rfl, h1, r1⟩ := trodAll_cons r0
  obtain ⟨rfl, rfl, rfl⟩ := trodAll_nil r1
  obtain rfl : args = #[v0, v1] := by cases args; simp_all
  obtain ⟨rfl, rfl⟩ := trodVars_none hV
  obtain ⟨a0, rfl, rfl, rfl, w0⟩ := open_int Try.underlying5 (hval 0 5 v0 rfl rfl) h0
  obtain ⟨a1, rfl, rfl, rfl, w1⟩ := open_int Try.underlying5 (hval 1 5 v1 rfl rfl) h1
  clear hA0 hval0
  refine (lexSigns_walk a0 a1 w0 w1 W).mono fun e W' ⟨he, bel⟩ => ?_
  subst he
  exact ⟨_, rfl, _, _, _, [], _, [], hW', trodAll_mk1 (shut_bool Try.underlying4 _), (trodAll_cons_mk (shut_int Try.underlying5 w0) (trodAll_cons_mk (shut_int Try.underlying5 w1) trodAll_mk0)), rfl, bel.frame _, fun h => by cases h⟩

theorem lexSigns_holds : Rows.LexSignsSaid :=
  OpenClaim.holds_of_wide 10 Try.f10 rfl rfl rfl rfl rfl rfl rfl ⟨rfl, rfl, rfl, rfl, rfl⟩ rfl rfl rfl rfl rfl (by kernel_rfl) Try.func10 (by kernel_rfl)
    (of_decide_eq_true (by kernel_rfl)) (by unfold Func.isWrapper; first | (rw [if_pos (by decide +kernel)]; kernel_rfl) | (rw [if_neg (by decide +kernel)]; exact ⟨rfl, rfl⟩))
    (fun os started H enc _ => lexSigns_lifted os started H enc)
#print axioms lexSigns_holds
end Go.Proofs.Ytlnfilefpehnbaa
