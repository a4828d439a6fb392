/-
  parse: the signs.
-/
import Derived.Test.YtbhbjhejkamlnaaPq
namespace Go.Proofs.Ytbhbjhejkamlnaa.Sx.Z
open Go.RowKit
def skK (s : ByteArray) : Int := if (s.toList == (⟨#[43]⟩ : ByteArray).toList) = true then 4 else if (s.toList == (⟨#[45]⟩ : ByteArray).toList) = true then 5 else 0
def pdK (s : ByteArray) : Int := if (s.toList == (⟨#[42]⟩ : ByteArray).toList) = true then 6 else if (s.toList == (⟨#[47]⟩ : ByteArray).toList) = true then 7 else if (s.toList == (⟨#[37]⟩ : ByteArray).toList) = true then 8 else 0
def coK (s : ByteArray) : Int := if (s.toList == (⟨#[61, 61]⟩ : ByteArray).toList) = true then 1 else if (s.toList == (⟨#[33, 61]⟩ : ByteArray).toList) = true then 2 else if (s.toList == (⟨#[60]⟩ : ByteArray).toList) = true then 3 else if (s.toList == (⟨#[60, 61]⟩ : ByteArray).toList) = true then 4 else if (s.toList == (⟨#[62]⟩ : ByteArray).toList) = true then 5 else if (s.toList == (⟨#[62, 61]⟩ : ByteArray).toList) = true then 6 else 0
theorem sk_e : skK ByteArray.empty = 0 := by decide +kernel
theorem pd_e : pdK ByteArray.empty = 0 := by decide +kernel
theorem co_e : coK ByteArray.empty = 0 := by decide +kernel
theorem pk_of {ws : D} {nx : Int} {f : ByteArray → Int} (he : f ByteArray.empty = 0) (h : f (pkS ws nx) ≠ 0) : nx < ws.len := by
  apply Decidable.byContradiction
  intro hn
  unfold pkS at h
  rw [if_neg hn] at h
  exact h he
theorem if_no {b : Bool} (h : b = false) {x y : Int} : (if b = true then x else y) = y := if_neg (by rw [h]; decide)
noncomputable def skdS : FSpec := fun ds _ => match ds with
  | [.s s] => some { val := .one (.sc (.int .i64 (.sym (skK s)))), vc := [] }
  | _ => none
noncomputable def skdC : Con := con [.sc .str] skdS
theorem skd_ok : ConOK Try.prog 107 skdC := by
  refine fn_ob tt_ok mixed Try.func107 rfl (fun _ _ => by kernel_rfl) (A := fun ds => ⟨fun _ => Cons.of [], fun _ => none, fun _ => none⟩) (fun _ _ => cons_nil) (by kernel_rfl) ?_
  intro ds fr
  unfold skdS
  split
  · rename_i s
    refine kmp (q := ((s.toList == (ByteArray.mk #[(43 : UInt8)]).toList) = true → (4 : Int) = skK s) ∧
 ((s.toList == (ByteArray.mk #[(43 : UInt8)]).toList) = false →
 ((s.toList == (ByteArray.mk #[(45 : UInt8)]).toList) = true → (5 : Int) = skK s) ∧
 ((s.toList == (ByteArray.mk #[(45 : UInt8)]).toList) = false → (0 : Int) = skK s))) (by kernel_rfl) ?_
    unfold skK
    refine ⟨fun h => ?_, fun h0 => ?_⟩
    · rw [if_pos h]
    refine ⟨fun h => ?_, fun h1 => ?_⟩
    · rw [if_no h0, if_pos h]
    rw [if_no h0, if_no h1]
  · trivial
noncomputable def pkdS : FSpec := fun ds _ => match ds with
  | [.s s] => some { val := .one (.sc (.int .i64 (.sym (pdK s)))), vc := [] }
  | _ => none
noncomputable def pkdC : Con := con [.sc .str] pkdS
theorem pkd_ok : ConOK Try.prog 110 pkdC := by
  refine fn_ob tt_ok mixed Try.func110 rfl (fun _ _ => by kernel_rfl) (A := fun ds => ⟨fun _ => Cons.of [], fun _ => none, fun _ => none⟩) (fun _ _ => cons_nil) (by kernel_rfl) ?_
  intro ds fr
  unfold pkdS
  split
  · rename_i s
    refine kmp (q := ((s.toList == (ByteArray.mk #[(42 : UInt8)]).toList) = true → (6 : Int) = pdK s) ∧
 ((s.toList == (ByteArray.mk #[(42 : UInt8)]).toList) = false →
 ((s.toList == (ByteArray.mk #[(47 : UInt8)]).toList) = true → (7 : Int) = pdK s) ∧
 ((s.toList == (ByteArray.mk #[(47 : UInt8)]).toList) = false →
 ((s.toList == (ByteArray.mk #[(37 : UInt8)]).toList) = true → (8 : Int) = pdK s) ∧
 ((s.toList == (ByteArray.mk #[(37 : UInt8)]).toList) = false → (0 : Int) = pdK s)))) (by kernel_rfl) ?_
    unfold pdK
    refine ⟨fun h => ?_, fun h0 => ?_⟩
    · rw [if_pos h]
    refine ⟨fun h => ?_, fun h1 => ?_⟩
    · rw [if_no h0, if_pos h]
    refine ⟨fun h => ?_, fun h2 => ?_⟩
    · rw [if_no h0, if_no h1, if_pos h]
    rw [if_no h0, if_no h1, if_no h2]
  · trivial
noncomputable def copS : FSpec := fun ds _ => match ds with
  | [.s s] => some { val := .one (.sc (.int .i64 (.sym (coK s)))), vc := [] }
  | _ => none
noncomputable def copC : Con := con [.sc .str] copS
theorem cop_ok : ConOK Try.prog 108 copC := by
  refine fn_ob tt_ok mixed Try.func108 rfl (fun _ _ => by kernel_rfl) (A := fun ds => ⟨fun _ => Cons.of [], fun _ => none, fun _ => none⟩) (fun _ _ => cons_nil) (by kernel_rfl) ?_
  intro ds fr
  unfold copS
  split
  · rename_i s
    refine kmp (q := ((s.toList == (ByteArray.mk #[(61 : UInt8), (61 : UInt8)]).toList) = true → (1 : Int) = coK s) ∧
 ((s.toList == (ByteArray.mk #[(61 : UInt8), (61 : UInt8)]).toList) = false →
 ((s.toList == (ByteArray.mk #[(33 : UInt8), (61 : UInt8)]).toList) = true → (2 : Int) = coK s) ∧
 ((s.toList == (ByteArray.mk #[(33 : UInt8), (61 : UInt8)]).toList) = false →
 ((s.toList == (ByteArray.mk #[(60 : UInt8)]).toList) = true → (3 : Int) = coK s) ∧
 ((s.toList == (ByteArray.mk #[(60 : UInt8)]).toList) = false →
 ((s.toList == (ByteArray.mk #[(60 : UInt8), (61 : UInt8)]).toList) = true → (4 : Int) = coK s) ∧
 ((s.toList == (ByteArray.mk #[(60 : UInt8), (61 : UInt8)]).toList) = false →
 ((s.toList == (ByteArray.mk #[(62 : UInt8)]).toList) = true → (5 : Int) = coK s) ∧
 ((s.toList == (ByteArray.mk #[(62 : UInt8)]).toList) = false →
 ((s.toList == (ByteArray.mk #[(62 : UInt8), (61 : UInt8)]).toList) = true → (6 : Int) = coK s) ∧
 ((s.toList == (ByteArray.mk #[(62 : UInt8), (61 : UInt8)]).toList) = false → (0 : Int) = coK s))))))) (by kernel_rfl) ?_
    unfold coK
    refine ⟨fun h => ?_, fun h0 => ?_⟩
    · rw [if_pos h]
    refine ⟨fun h => ?_, fun h1 => ?_⟩
    · rw [if_no h0, if_pos h]
    refine ⟨fun h => ?_, fun h2 => ?_⟩
    · rw [if_no h0, if_no h1, if_pos h]
    refine ⟨fun h => ?_, fun h3 => ?_⟩
    · rw [if_no h0, if_no h1, if_no h2, if_pos h]
    refine ⟨fun h => ?_, fun h4 => ?_⟩
    · rw [if_no h0, if_no h1, if_no h2, if_no h3, if_pos h]
    refine ⟨fun h => ?_, fun h5 => ?_⟩
    · rw [if_no h0, if_no h1, if_no h2, if_no h3, if_no h4, if_pos h]
    rw [if_no h0, if_no h1, if_no h2, if_no h3, if_no h4, if_no h5]
  · trivial
def cmR (ws : D) (en : Int) (r : Rd) : Rd := if coK (pkS ws r.nx) = 0 then fl ws en 5 r else gx r
noncomputable def cmpS : List Dat → Option (Eff × List Seg) := fun ds => match ds with
  | [.d ws, .i nx, .i en, .i pa, .i er] => some ({ val := .one (.sc (.int .i64 (.sym (coK (pkS ws nx))))), vc := [rdOK ws nx] }, [.c (.rows 115 ws), .c (.int .i64 (.sym ((cmR ws en (mR nx pa er)).nx))), .c (.int .i64 (.sym en)), .c (.int .i64 (.sym ((cmR ws en (mR nx pa er)).pa))), .c (.int .i64 (.sym ((cmR ws en (mR nx pa er)).er)))])
  | _ => none
noncomputable def cmpC : Con := conM 64 [.c (.rows 115), .c (.int .i64), .c (.int .i64), .c (.int .i64), .c (.int .i64)] [] cmpS
theorem cmp_ok : ConOK Try.prog 103 cmpC := by
  refine fn_obM tt_ok mixed Try.func103 rfl (fun _ _ => by kernel_rfl) (A := fun ds => ⟨fun _ => Cons.of [(67, pekC), (73, falC), (108, copC)], fun _ => none, fun _ => none⟩) (fun _ _ => (cons_cons pek_ok (cons_cons fal_ok (cons_cons cop_ok cons_nil)))) (by kernel_rfl) ?_
  intro ds
  unfold cmpS
  split
  · rename_i ws nx en pa er
    refine kmp (q := rdOK ws nx →
 rdOK ws nx ∧
 ((coK (pkS ws nx) == (0 : Int)) = true →
 rdOK ws nx ∧
 (0 : Int) = coK (pkS ws nx) ∧
 ws.rows = ws.rows ∧
 (fl ws en (5 : Int) (mR nx pa er)).nx = (cmR ws en (mR nx pa er)).nx ∧
 en = en ∧
 (fl ws en (5 : Int) (mR nx pa er)).pa = (cmR ws en (mR nx pa er)).pa ∧ (fl ws en (5 : Int) (mR nx pa er)).er = (cmR ws en (mR nx pa er)).er) ∧
 ((coK (pkS ws nx) == (0 : Int)) = false →
 coK (pkS ws nx) = coK (pkS ws nx) ∧
 ws.rows = ws.rows ∧
 IntKind.i64.wrap (nx + (1 : Int)) = (cmR ws en (mR nx pa er)).nx ∧ en = en ∧ pa = (cmR ws en (mR nx pa er)).pa ∧ er = (cmR ws en (mR nx pa er)).er)) (by kernel_rfl) ?_
    intro h
    refine ⟨h, fun hc => ?_, fun hc => ?_⟩
    · have hc : coK (pkS ws nx) = 0 := by simpa using hc
      have e : cmR ws en (mR nx pa er) = fl ws en 5 (mR nx pa er) := if_pos hc
      rw [e, hc]
      (repeat' (with_reducible apply And.intro)) <;> first | with_reducible rfl | exact True.intro | assumption | (symm; assumption) | rfl
    · have hc : coK (pkS ws nx) ≠ 0 := by simpa using hc
      have e : cmR ws en (mR nx pa er) = gx (mR nx pa er) := if_neg hc
      rw [e, nx1 h (pk_of co_e hc)]
      (repeat' (with_reducible apply And.intro)) <;> first | with_reducible rfl | exact True.intro | assumption | (symm; assumption) | rfl
  · trivial
end Go.Proofs.Ytbhbjhejkamlnaa.Sx.Z
