/-
  parse.Parse, of every text.
-/
import Derived.Test.YtbhbjhejkamlnaaP4
import Derived.Test.YtbhbjhejkamlnaaLa
namespace Go.Proofs.Ytbhbjhejkamlnaa.Sx.Z
open Go.RowKit
def paW (s : ByteArray) : D := tokD (lexR s).1
def paY (s : ByteArray) : Rd := syR (paW s) (s.size : Nat) (mR 0 0 0)
def paO (s : ByteArray) : Bool := decide ((lexR s).2.2 = 0) && decide ((paY s).er = 0)
def paC (s : ByteArray) : D := if paO s = true then (syC (paW s) (s.size : Nat) (mR 0 0 0)).1 else .l []
def paU (s : ByteArray) : D := if paO s = true then (syU (paW s) (s.size : Nat) (mR 0 0 0)).1 else .l []
def paP (s : ByteArray) : D := if paO s = true then (syP (paW s) (s.size : Nat) (mR 0 0 0)).1 else .l []
def paE (s : ByteArray) : Int := if (lexR s).2.2 = 0 then (paY s).er else (lexR s).2.2
def paA (s : ByteArray) : Int := if (lexR s).2.2 = 0 then (if (paY s).er = 0 then 0 else (paY s).pa) else ((lexR s).2.1 : Nat)
theorem ne_of_bne {a b : Int} (h : (a != b) = true) : a ≠ b := by simpa using h
theorem of_not_bne {a b : Int} (h : (a != b) = false) : a = b := by simpa using h
theorem lexR_len (s : ByteArray) : (lexR s).1.length ≤ 2000 := by
  unfold lexR
  split
  · exact Nat.zero_le _
  · split
    · exact Nat.zero_le _
    · rename_i h
      exact Nat.le_of_not_lt h
theorem paW_ok (s : ByteArray) : rdOK (paW s) (mR 0 0 0).nx := by
  have h := lexR_len s
  have e : (paW s).len = (lexR s).1.length := tokD_len _
  exact ⟨Int.le_refl _, by show (0 : Int) ≤ _; omega, by omega⟩
noncomputable def parS : List Dat → Option Eff := fun ds => match ds with
  | [.s s] => some { val := .tup [.agg [.c (.osl 97 0 (.lit 0) (.sym ((paC s).len))), .c (.osl 102 1 (.lit 0) (.sym ((paU s).len))), .c (.osl 87 2 (.lit 0) (.sym ((paP s).len)))], .sc (.int .i64 (.sym (paA s))), .sc (.int .i64 (.sym (paE s)))], vc := [s.size ≤ 140737488351232], nw := [(0, .orow 97 (paC s)), (1, .orow 102 (paU s)), (2, .orow 87 (paP s))] }
  | _ => none
noncomputable def parC : Con := conS [.sc .str] parS
theorem par_ok : ConOK Try.prog 7 parC := by
  refine fn_obS tt_ok mixed Try.func7 rfl (fun _ _ => by kernel_rfl) (A := fun ds => ⟨fun _ => Cons.of [(13, lexC), (14, sysC)], fun _ => none, fun _ => none⟩) (fun _ _ => (cons_cons lex_ok (cons_cons sys_ok cons_nil))) (by kernel_rfl) ?_
  intro ds
  unfold parS
  split
  · rename_i s
    refine kmp (q := s.size ≤ (140737488351232 : Nat) →
 s.size ≤ (140737488351232 : Nat) ∧
 (((lexR s).snd.snd != (0 : Int)) = true →
 (paC s).len = (0 : Nat) ∧
 (paU s).len = (0 : Nat) ∧
 (paP s).len = (0 : Nat) ∧
 (↑(lexR s).snd.fst : Int) = paA s ∧ (lexR s).snd.snd = paE s ∧ (paC s).rows = [] ∧ (paU s).rows = [] ∧ (paP s).rows = []) ∧
 (((lexR s).snd.snd != (0 : Int)) = false →
 rdOK (tokD (lexR s).fst) (0 : Int) ∧
 (((syR (tokD (lexR s).fst) (↑s.size : Int) (mR (0 : Int) (0 : Int) (0 : Int))).er != (0 : Int)) = true →
 (paC s).len = (0 : Nat) ∧
 (paU s).len = (0 : Nat) ∧
 (paP s).len = (0 : Nat) ∧
 (syR (tokD (lexR s).fst) (↑s.size : Int) (mR (0 : Int) (0 : Int) (0 : Int))).pa = paA s ∧
 (syR (tokD (lexR s).fst) (↑s.size : Int) (mR (0 : Int) (0 : Int) (0 : Int))).er = paE s ∧
 (paC s).rows = [] ∧ (paU s).rows = [] ∧ (paP s).rows = []) ∧
 (((syR (tokD (lexR s).fst) (↑s.size : Int) (mR (0 : Int) (0 : Int) (0 : Int))).er != (0 : Int)) = false →
 (syC (tokD (lexR s).fst) (↑s.size : Int) (mR (0 : Int) (0 : Int) (0 : Int))).fst.len = (paC s).len ∧
 (syU (tokD (lexR s).fst) (↑s.size : Int) (mR (0 : Int) (0 : Int) (0 : Int))).fst.len = (paU s).len ∧
 (syP (tokD (lexR s).fst) (↑s.size : Int) (mR (0 : Int) (0 : Int) (0 : Int))).fst.len = (paP s).len ∧
 (0 : Int) = paA s ∧
 (0 : Int) = paE s ∧
 (syC (tokD (lexR s).fst) (↑s.size : Int) (mR (0 : Int) (0 : Int) (0 : Int))).fst.rows = (paC s).rows ∧
 (syU (tokD (lexR s).fst) (↑s.size : Int) (mR (0 : Int) (0 : Int) (0 : Int))).fst.rows = (paU s).rows ∧
 (syP (tokD (lexR s).fst) (↑s.size : Int) (mR (0 : Int) (0 : Int) (0 : Int))).fst.rows = (paP s).rows))) (by kernel_rfl) ?_
    intro h
    have g := paW_ok s
    refine ⟨h, fun hc => ?_, fun hc => ⟨g, fun hd => ?_, fun hd => ?_⟩⟩
    · have hc : (lexR s).2.2 ≠ 0 := by simpa using hc
      have e : paO s = false := by simp only [paO, decide_eq_false hc, Bool.false_and]
      simp only [paC, paU, paP, paA, paE, e, if_neg hc, Bool.false_eq_true, if_false]
      (repeat' (with_reducible apply And.intro)) <;> first | with_reducible rfl | exact True.intro | with_reducible assumption | decide | assumption | rfl
    · have hc : (lexR s).2.2 = 0 := by simpa using hc
      have hd : (paY s).er ≠ 0 := ne_of_bne hd
      have e : paO s = false := by simp only [paO, decide_eq_false hd, Bool.and_false]
      simp only [paC, paU, paP, paA, paE, e, if_pos hc, if_neg hd, Bool.false_eq_true, if_false]
      (repeat' (with_reducible apply And.intro)) <;> first | with_reducible rfl | exact True.intro | with_reducible assumption | decide | assumption | rfl
    · have hc : (lexR s).2.2 = 0 := by simpa using hc
      have hd : (paY s).er = 0 := of_not_bne hd
      have e : paO s = true := by simp only [paO, decide_eq_true hc, decide_eq_true hd, Bool.and_self]
      simp only [paC, paU, paP, paA, paE, e, if_pos hc, if_pos hd, if_true, hd]
      (repeat' (with_reducible apply And.intro)) <;> first | with_reducible rfl | exact True.intro | with_reducible assumption | decide | assumption | rfl
  · trivial
end Go.Proofs.Ytbhbjhejkamlnaa.Sx.Z
