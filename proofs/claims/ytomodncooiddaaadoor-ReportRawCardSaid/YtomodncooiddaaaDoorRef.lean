/-
  What the words are at four places; Itvs and alarms of all.
-/
import Derived.Test.YtomodncooiddaaaDoorRee
namespace Go.Proofs.YtomodncooiddaaaDoor.Sx.Z
open Go.RowKit
def oLo (a b : Int) : Int := if max a (-2147483648) > min b 2147483647 then 1 else max a (-2147483648)
def oHi (a b : Int) : Int := if max a (-2147483648) > min b 2147483647 then 0 else min b 2147483647
theorem dok_nI {d : D} (h : DOk (.int .i64) d) : nI d.toI := by
  cases h with
  | int k d h =>
    simp [Lit.wf, IntKind.min, IntKind.max, IntKind.bits, IntKind.signed] at h
    exact ⟨by omega, by omega⟩
def bnd (a : Int) : Int := IntKind.i64.wrap (IntKind.i32.wrap a)
noncomputable def iofS : FSpec := fun ds _ => match ds with
  | [.i a, .i b] => some { val := .one (.agg [.c (.int .i64 (.sym (oLo a b))), .c (.int .i64 (.sym (oHi a b)))]), vc := [] }
  | _ => none
noncomputable def iofC : Con := con [.sc (.int .i64), .sc (.int .i64)] iofS
theorem iof_ok : ConOK Tryd.prog 19 iofC := by
  refine fn_ob tt_ok mixed Tryd.func19 rfl (fun _ _ => by kernel_rfl) (A := fun ds => ⟨fun _ => Cons.of [(34, empC), (33, inoC)], fun _ => none, fun _ => none⟩) (fun _ _ => (cons_cons emp_ok (cons_cons ino_ok cons_nil))) (by kernel_rfl) ?_
  intro ds fr
  unfold iofS
  split
  · rename_i a b
    refine kmp (q := (decide ((if (-2147483648 : Int) > a then (-2147483648 : Int) else a) > if (2147483647 : Int) < b then (2147483647 : Int) else b) = true →
 (1 : Int) = oLo a b ∧ (0 : Int) = oHi a b) ∧
 (decide ((if (-2147483648 : Int) > a then (-2147483648 : Int) else a) > if (2147483647 : Int) < b then (2147483647 : Int) else b) = false →
 (if (-2147483648 : Int) > a then (-2147483648 : Int) else a) = oLo a b ∧ (if (2147483647 : Int) < b then (2147483647 : Int) else b) = oHi a b)) (by kernel_rfl) ?_
    unfold oLo oHi
    refine ⟨fun h => ?_, fun h => ?_⟩
    · have h := of_decide_eq_true h
      (repeat' split at h) <;> (repeat' split) <;> omega
    · have h := of_decide_eq_false h
      (repeat' split at h) <;> (repeat' split) <;> omega
  · trivial
noncomputable def bend8S : FSpec := fun ds _ => match ds with
  | [.i a, .i b] => some { val := .one (.agg [.c (.int .i64 (.sym (bnd a))), .c (.int .i64 (.sym (bnd b)))]), vc := [] }
  | _ => none
noncomputable def bend8C : Con := con [.agg [.c (.int .i64), .c (.int .i64)]] bend8S
theorem bend8_ok : ConOK Tryd.prog 13 bend8C := by
  refine fn_ob tt_ok mixed Tryd.func13 rfl (fun _ _ => by kernel_rfl) (A := fun ds => ⟨fun _ => Cons.of [], fun _ => none, fun _ => none⟩) (fun _ _ => cons_nil) (by kernel_rfl) ?_
  intro ds fr
  unfold bend8S
  split
  · rename_i a b
    refine kmp (q := IntKind.i64.wrap (IntKind.i32.wrap a) = bnd a ∧ IntKind.i64.wrap (IntKind.i32.wrap b) = bnd b) (by kernel_rfl) ?_
    exact ⟨rfl, rfl⟩
  · trivial
noncomputable def sysS : FSpec := fun ds _ => match ds with
  | [] => some { val := .one (.sc (.bool (.lit true))), vc := [] }
  | _ => none
noncomputable def sysC : Con := con [] sysS
theorem sys_ok : ConOK Tryd.prog 14 sysC := by
  refine fn_ob tt_ok mixed Tryd.func14 rfl (fun _ _ => by kernel_rfl) (A := fun ds => ⟨fun _ => Cons.of [(19, iofC), (15, pitC), (33, inoC), (17, palC), (20, txtC)], fun _ => none, fun _ => none⟩) (fun _ _ => (cons_cons iof_ok (cons_cons pit_ok (cons_cons ino_ok (cons_cons pal_ok (cons_cons txt_ok cons_nil)))))) (by kernel_rfl) ?_
  intro ds fr
  unfold sysS
  split
  · skip
    refine kmp (q := nI (oLo (-2 : Int) (7 : Int)) ∧
 nI (oHi (-2 : Int) (7 : Int)) ∧
 (((itT (oLo (-2 : Int) (7 : Int)) (oHi (-2 : Int) (7 : Int))).toList ==
 (ByteArray.mk #[(45 : UInt8), (50 : UInt8), (32 : UInt8), (116 : UInt8), (111 : UInt8), (32 : UInt8), (55 : UInt8)]).toList) =
 true ∧
 True →
 nI (1 : Int)) ∧
 (((itT (oLo (-2 : Int) (7 : Int)) (oHi (-2 : Int) (7 : Int))).toList ==
 (ByteArray.mk #[(45 : UInt8), (50 : UInt8), (32 : UInt8), (116 : UInt8), (111 : UInt8), (32 : UInt8), (55 : UInt8)]).toList) =
 true ∧
 True →
 nI (0 : Int)) ∧
 (((itT (oLo (-2 : Int) (7 : Int)) (oHi (-2 : Int) (7 : Int))).toList ==
 (ByteArray.mk #[(45 : UInt8), (50 : UInt8), (32 : UInt8), (116 : UInt8), (111 : UInt8), (32 : UInt8), (55 : UInt8)]).toList &&
 (itT (1 : Int) (0 : Int)).toList == (ByteArray.mk #[(110 : UInt8), (111 : UInt8), (110 : UInt8), (101 : UInt8)]).toList) =
 true ∧
 True →
 nI (0 : Int)) ∧
 (((itT (oLo (-2 : Int) (7 : Int)) (oHi (-2 : Int) (7 : Int))).toList ==
 (ByteArray.mk #[(45 : UInt8), (50 : UInt8), (32 : UInt8), (116 : UInt8), (111 : UInt8), (32 : UInt8), (55 : UInt8)]).toList &&
 (itT (1 : Int) (0 : Int)).toList == (ByteArray.mk #[(110 : UInt8), (111 : UInt8), (110 : UInt8), (101 : UInt8)]).toList) =
 true ∧
 True →
 nI (3 : Int)) ∧
 (((itT (oLo (-2 : Int) (7 : Int)) (oHi (-2 : Int) (7 : Int))).toList ==
 (ByteArray.mk #[(45 : UInt8), (50 : UInt8), (32 : UInt8), (116 : UInt8), (111 : UInt8), (32 : UInt8), (55 : UInt8)]).toList &&
 (itT (1 : Int) (0 : Int)).toList == (ByteArray.mk #[(110 : UInt8), (111 : UInt8), (110 : UInt8), (101 : UInt8)]).toList) =
 true ∧
 True →
 nI (2 : Int)) ∧
 (((itT (oLo (-2 : Int) (7 : Int)) (oHi (-2 : Int) (7 : Int))).toList ==
 (ByteArray.mk #[(45 : UInt8), (50 : UInt8), (32 : UInt8), (116 : UInt8), (111 : UInt8), (32 : UInt8), (55 : UInt8)]).toList &&
 (itT (1 : Int) (0 : Int)).toList == (ByteArray.mk #[(110 : UInt8), (111 : UInt8), (110 : UInt8), (101 : UInt8)]).toList &&
 (alT (0 : Int) (3 : Int) (2 : Int)).toList ==
 (ByteArray.mk #[(111 : UInt8), (118 : UInt8), (101 : UInt8), (114 : UInt8), (102 : UInt8), (108 : UInt8), (111 : UInt8), (119 : UInt8),
 (32 : UInt8), (97 : UInt8), (116 : UInt8), (32 : UInt8), (112 : UInt8), (114 : UInt8), (111 : UInt8), (99 : UInt8),
 (101 : UInt8), (115 : UInt8), (115 : UInt8), (32 : UInt8), (48 : UInt8), (32 : UInt8), (101 : UInt8), (100 : UInt8),
 (103 : UInt8), (101 : UInt8), (32 : UInt8), (51 : UInt8)]).toList) =
 true ∧
 True →
 teOK (0 : Int) (D.l []) (D.l []) (D.l [])) ∧
 ((itT (oLo (-2 : Int) (7 : Int)) (oHi (-2 : Int) (7 : Int))).toList ==
 (ByteArray.mk #[(45 : UInt8), (50 : UInt8), (32 : UInt8), (116 : UInt8), (111 : UInt8), (32 : UInt8), (55 : UInt8)]).toList &&
 (itT (1 : Int) (0 : Int)).toList == (ByteArray.mk #[(110 : UInt8), (111 : UInt8), (110 : UInt8), (101 : UInt8)]).toList &&
 (alT (0 : Int) (3 : Int) (2 : Int)).toList ==
 (ByteArray.mk #[(111 : UInt8), (118 : UInt8), (101 : UInt8), (114 : UInt8), (102 : UInt8), (108 : UInt8), (111 : UInt8), (119 : UInt8),
 (32 : UInt8), (97 : UInt8), (116 : UInt8), (32 : UInt8), (112 : UInt8), (114 : UInt8), (111 : UInt8), (99 : UInt8),
 (101 : UInt8), (115 : UInt8), (115 : UInt8), (32 : UInt8), (48 : UInt8), (32 : UInt8), (101 : UInt8), (100 : UInt8),
 (103 : UInt8), (101 : UInt8), (32 : UInt8), (51 : UInt8)]).toList &&
 (teT (0 : Int) (D.l []) (D.l []) (D.l [])).toList ==
 (ByteArray.mk #[(115 : UInt8), (116 : UInt8), (101 : UInt8), (112 : UInt8), (115 : UInt8), (32 : UInt8), (48 : UInt8), (10 : UInt8),
 (110 : UInt8), (111 : UInt8), (32 : UInt8), (97 : UInt8), (108 : UInt8), (97 : UInt8), (114 : UInt8), (109 : UInt8),
 (10 : UInt8)]).toList) =
 true) (by kernel_rfl) ?_
    have e0 : teOK 0 (D.l []) (D.l []) (D.l []) := ⟨nN (i := 0) (by decide), by decide, fun _ h => (by cases h), by decide, fun _ h => (by cases h), by decide, fun _ h => (by cases h)⟩
    have z : ∀ x : Int, x = 0 ∨ x = 1 ∨ x = 2 ∨ x = 3 → nI x := fun x h => ⟨by omega, by omega⟩
    refine ⟨⟨by decide, by decide⟩, ⟨by decide, by decide⟩, fun _ => z _ (by decide), fun _ => z _ (by decide), fun _ => z _ (by decide), fun _ => z _ (by decide), fun _ => z _ (by decide), fun _ => e0, by kernel_rfl⟩
  · trivial
noncomputable def ritvsS : FSpec := fun ds _ => match ds with
  | [.i l, .i h, .i p, .i e, .i k] => some { val := .one (.sc (.bool (.lit true))), vc := [nI l, nI h, nI p, nI e, nI k] }
  | _ => none
noncomputable def ritvsC : Con := con [.agg [.c (.int .i64), .c (.int .i64)], .agg [.c (.int .i64), .c (.int .i64), .c (.int .i64)]] ritvsS
theorem ritvs_ok : ConOK Tryd.prog 6 ritvsC := by
  refine fn_ob tt_ok mixed Tryd.func6 rfl (fun _ _ => by kernel_rfl) (A := fun ds => ⟨fun _ => Cons.of [(14, sysC), (13, bend8C), (15, pitC), (16, ritC), (17, palC), (18, ralC)], fun _ => none, fun _ => none⟩) (fun _ _ => (cons_cons sys_ok (cons_cons bend8_ok (cons_cons pit_ok (cons_cons rit_ok (cons_cons pal_ok (cons_cons ral_ok cons_nil))))))) (by kernel_rfl) ?_
  intro ds fr
  unfold ritvsS
  split
  · rename_i l h p e k
    refine kmp (q := nI l →
 nI h →
 nI p →
 nI e →
 nI k →
 nI l ∧
 nI h ∧
 nI l ∧
 nI h ∧
 (((itT l h).toList == (itT l h).toList) = true ∧ True → nI (bnd l)) ∧
 (((itT l h).toList == (itT l h).toList) = true ∧ True → nI (bnd h)) ∧
 (((itT l h).toList == (itT l h).toList) = true ∧ True → nI (bnd l)) ∧
 (((itT l h).toList == (itT l h).toList) = true ∧ True → nI (bnd h)) ∧
 (((itT l h).toList == (itT l h).toList && (itT (bnd l) (bnd h)).toList == (itT (bnd l) (bnd h)).toList) = true ∧ True → nI p) ∧
 (((itT l h).toList == (itT l h).toList && (itT (bnd l) (bnd h)).toList == (itT (bnd l) (bnd h)).toList) = true ∧ True → nI e) ∧
 (((itT l h).toList == (itT l h).toList && (itT (bnd l) (bnd h)).toList == (itT (bnd l) (bnd h)).toList) = true ∧ True → nI k) ∧
 (((itT l h).toList == (itT l h).toList && (itT (bnd l) (bnd h)).toList == (itT (bnd l) (bnd h)).toList) = true ∧ True → nI p) ∧
 (((itT l h).toList == (itT l h).toList && (itT (bnd l) (bnd h)).toList == (itT (bnd l) (bnd h)).toList) = true ∧ True →
 nI e) ∧
 (((itT l h).toList == (itT l h).toList && (itT (bnd l) (bnd h)).toList == (itT (bnd l) (bnd h)).toList) = true ∧ True →
 nI k) ∧
 ((itT l h).toList == (itT l h).toList && (itT (bnd l) (bnd h)).toList == (itT (bnd l) (bnd h)).toList &&
 (alT p e k).toList == (alT p e k).toList) =
 true) (by kernel_rfl) ?_
    intro hl hh hp he hk
    have hb : ∀ x, nI (bnd x) := fun x => by
      unfold bnd nI
      rw [IntKind.wrap_i64, IntKind.wrap_i32]
      omega
    simp only [beq_self_eq_true, Bool.and_true, and_true, forall_const]
    exact ⟨hl, hh, hl, hh, hb _, hb _, hb _, hb _, hp, he, hk, hp, he, hk⟩
  · trivial
end Go.Proofs.YtomodncooiddaaaDoor.Sx.Z
