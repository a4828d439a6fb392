/-
  parse: a condition.
-/
import Derived.Test.YtbhbjhejkamlnaaPu
namespace Go.Proofs.Ytbhbjhejkamlnaa.Sx.Z
open Go.RowKit
/-- An expression, whatever words are left. -/
def smX : PF := smF (fcR 1000001)
theorem smX_ok : ConOK Try.prog 99 (partC smX 1000001) := sum_all 1000001
theorem smX_up (en : Int) (ws : D) (dp : Int) : PaOK ws (smX en ws dp) := smF_up (fcR_up 1000001) en ws dp
attribute [irreducible] smX
theorem lf_lt {ws : D} {r : Rd} (h : rdOK ws r.nx) : dpOK ws r 0 ∧ left ws r < 1000001 := by
  obtain ⟨a, b, c⟩ := h
  unfold dpOK left
  exact ⟨⟨by omega, by omega⟩, by omega⟩
theorem cm_up {ws : D} (en : Int) {r : Rd} (h : rdOK ws r.nx) : rdOK ws (cmR ws en r).nx ∧ r.nx ≤ (cmR ws en r).nx := by
  unfold cmR
  split
  · exact fl_up en 5 h
  · rename_i hk
    exact gx_up h (pk_of co_e hk)
structure Cd where
  op : Int
  l : Xp
  r : Xp
def cdA (ws : D) (en : Int) (r : Rd) : Xp × Rd := smX en ws 0 (exR ws en opB r)
def cdB (ws : D) (en : Int) (r : Rd) : Xp × Rd := smX en ws 0 (cmR ws en (cdA ws en r).2)
def cdC (ws : D) (en : Int) (r : Rd) : Cd := ⟨coK (pkS ws (cdA ws en r).2.nx), (cdA ws en r).1, (cdB ws en r).1⟩
def cdR (ws : D) (en : Int) (r : Rd) : Rd := exR ws en clB (cdB ws en r).2
theorem cd_up {ws : D} (en : Int) {r : Rd} (h : rdOK ws r.nx) : rdOK ws (exR ws en opB r).nx ∧ rdOK ws (cdA ws en r).2.nx ∧ rdOK ws (cmR ws en (cdA ws en r).2).nx ∧ rdOK ws (cdB ws en r).2.nx ∧ rdOK ws (cdR ws en r).nx ∧ r.nx ≤ (cdR ws en r).nx := by
  have a := ex_up en (t := opB) h (by decide)
  have b := (smX_up en ws 0).up _ a.1
  have c := cm_up en b.2.1
  have d := (smX_up en ws 0).up _ c.1
  have e := ex_up en (t := clB) d.2.1 (by decide)
  exact ⟨a.1, b.2.1, c.1, d.2.1, e.1, Int.le_trans a.2 (Int.le_trans b.1 (Int.le_trans c.2 (Int.le_trans d.1 e.2)))⟩
noncomputable def cndS : List Dat → Option (Eff × List Seg) := fun ds => match ds with
  | [.d ws, .i nx, .i en, .i pa, .i er] => some ({ val := .one (.agg [.c (.int .i64 (.sym (cdC ws en (mR nx pa er)).op)), .c (.int .i64 (.sym ((cdC ws en (mR nx pa er)).l).k)), .c (.int .i64 (.sym ((cdC ws en (mR nx pa er)).l).n)), .c (.raw (.string ((cdC ws en (mR nx pa er)).l).s)), .c (.osl 90 0 (.lit 0) (.sym ((cdC ws en (mR nx pa er)).l).d.len)), .c (.int .i64 (.sym ((cdC ws en (mR nx pa er)).r).k)), .c (.int .i64 (.sym ((cdC ws en (mR nx pa er)).r).n)), .c (.raw (.string ((cdC ws en (mR nx pa er)).r).s)), .c (.osl 90 1 (.lit 0) (.sym ((cdC ws en (mR nx pa er)).r).d.len))]), vc := [rdOK ws nx], nw := [(0, .orow 90 (cdC ws en (mR nx pa er)).l.d), (1, .orow 90 (cdC ws en (mR nx pa er)).r.d)] }, [.c (.rows 115 ws), .c (.int .i64 (.sym ((cdR ws en (mR nx pa er)).nx))), .c (.int .i64 (.sym en)), .c (.int .i64 (.sym ((cdR ws en (mR nx pa er)).pa))), .c (.int .i64 (.sym ((cdR ws en (mR nx pa er)).er)))])
  | _ => none
noncomputable def cndC : Con := conM 64 [.c (.rows 115), .c (.int .i64), .c (.int .i64), .c (.int .i64), .c (.int .i64)] [] cndS
theorem cnd_ok : ConOK Try.prog 97 cndC := by
  refine fn_obM tt_ok mixed Try.func97 rfl (fun _ _ => by kernel_rfl) (A := fun ds => ⟨fun _ => Cons.of [(99, (partC smX 1000001)), (71, expC), (103, cmpC)], fun _ => none, fun _ => none⟩) (fun _ _ => (cons_cons smX_ok (cons_cons exp_ok (cons_cons cmp_ok cons_nil)))) (by kernel_rfl) ?_
  intro ds
  unfold cndS
  split
  · rename_i ws nx en pa er
    refine kmp (q := rdOK ws nx →
 rdOK ws nx ∧
 (0 : Nat) < (ByteArray.mk #[(40 : UInt8)]).size ∧
 rdOK ws (exR ws en (ByteArray.mk #[(40 : UInt8)]) (mR nx pa er)).nx ∧
 dpOK ws
 (mR (exR ws en (ByteArray.mk #[(40 : UInt8)]) (mR nx pa er)).nx (exR ws en (ByteArray.mk #[(40 : UInt8)]) (mR nx pa er)).pa
 (exR ws en (ByteArray.mk #[(40 : UInt8)]) (mR nx pa er)).er)
 (0 : Int) ∧
 left ws
 (mR (exR ws en (ByteArray.mk #[(40 : UInt8)]) (mR nx pa er)).nx (exR ws en (ByteArray.mk #[(40 : UInt8)]) (mR nx pa er)).pa
 (exR ws en (ByteArray.mk #[(40 : UInt8)]) (mR nx pa er)).er) <
 (1000001 : Nat) ∧
 rdOK ws
 (smX en ws (0 : Int)
 (mR (exR ws en (ByteArray.mk #[(40 : UInt8)]) (mR nx pa er)).nx (exR ws en (ByteArray.mk #[(40 : UInt8)]) (mR nx pa er)).pa
 (exR ws en (ByteArray.mk #[(40 : UInt8)]) (mR nx pa er)).er)).snd.nx ∧
 rdOK ws
 (cmR ws en
 (mR
 (smX en ws (0 : Int)
 (mR (exR ws en (ByteArray.mk #[(40 : UInt8)]) (mR nx pa er)).nx (exR ws en (ByteArray.mk #[(40 : UInt8)]) (mR nx pa er)).pa
 (exR ws en (ByteArray.mk #[(40 : UInt8)]) (mR nx pa er)).er)).snd.nx
 (smX en ws (0 : Int)
 (mR (exR ws en (ByteArray.mk #[(40 : UInt8)]) (mR nx pa er)).nx (exR ws en (ByteArray.mk #[(40 : UInt8)]) (mR nx pa er)).pa
 (exR ws en (ByteArray.mk #[(40 : UInt8)]) (mR nx pa er)).er)).snd.pa
 (smX en ws (0 : Int)
 (mR (exR ws en (ByteArray.mk #[(40 : UInt8)]) (mR nx pa er)).nx (exR ws en (ByteArray.mk #[(40 : UInt8)]) (mR nx pa er)).pa
 (exR ws en (ByteArray.mk #[(40 : UInt8)]) (mR nx pa er)).er)).snd.er)).nx ∧
 dpOK ws
 (mR
 (cmR ws en
 (mR
 (smX en ws (0 : Int)
 (mR (exR ws en (ByteArray.mk #[(40 : UInt8)]) (mR nx pa er)).nx (exR ws en (ByteArray.mk #[(40 : UInt8)]) (mR nx pa er)).pa
 (exR ws en (ByteArray.mk #[(40 : UInt8)]) (mR nx pa er)).er)).snd.nx
 (smX en ws (0 : Int)
 (mR (exR ws en (ByteArray.mk #[(40 : UInt8)]) (mR nx pa er)).nx (exR ws en (ByteArray.mk #[(40 : UInt8)]) (mR nx pa er)).pa
 (exR ws en (ByteArray.mk #[(40 : UInt8)]) (mR nx pa er)).er)).snd.pa
 (smX en ws (0 : Int)
 (mR (exR ws en (ByteArray.mk #[(40 : UInt8)]) (mR nx pa er)).nx (exR ws en (ByteArray.mk #[(40 : UInt8)]) (mR nx pa er)).pa
 (exR ws en (ByteArray.mk #[(40 : UInt8)]) (mR nx pa er)).er)).snd.er)).nx
 (cmR ws en
 (mR
 (smX en ws (0 : Int)
 (mR (exR ws en (ByteArray.mk #[(40 : UInt8)]) (mR nx pa er)).nx (exR ws en (ByteArray.mk #[(40 : UInt8)]) (mR nx pa er)).pa
 (exR ws en (ByteArray.mk #[(40 : UInt8)]) (mR nx pa er)).er)).snd.nx
 (smX en ws (0 : Int)
 (mR (exR ws en (ByteArray.mk #[(40 : UInt8)]) (mR nx pa er)).nx (exR ws en (ByteArray.mk #[(40 : UInt8)]) (mR nx pa er)).pa
 (exR ws en (ByteArray.mk #[(40 : UInt8)]) (mR nx pa er)).er)).snd.pa
 (smX en ws (0 : Int)
 (mR (exR ws en (ByteArray.mk #[(40 : UInt8)]) (mR nx pa er)).nx (exR ws en (ByteArray.mk #[(40 : UInt8)]) (mR nx pa er)).pa
 (exR ws en (ByteArray.mk #[(40 : UInt8)]) (mR nx pa er)).er)).snd.er)).pa
 (cmR ws en
 (mR
 (smX en ws (0 : Int)
 (mR (exR ws en (ByteArray.mk #[(40 : UInt8)]) (mR nx pa er)).nx (exR ws en (ByteArray.mk #[(40 : UInt8)]) (mR nx pa er)).pa
 (exR ws en (ByteArray.mk #[(40 : UInt8)]) (mR nx pa er)).er)).snd.nx
 (smX en ws (0 : Int)
 (mR (exR ws en (ByteArray.mk #[(40 : UInt8)]) (mR nx pa er)).nx (exR ws en (ByteArray.mk #[(40 : UInt8)]) (mR nx pa er)).pa
 (exR ws en (ByteArray.mk #[(40 : UInt8)]) (mR nx pa er)).er)).snd.pa
 (smX en ws (0 : Int)
 (mR (exR ws en (ByteArray.mk #[(40 : UInt8)]) (mR nx pa er)).nx (exR ws en (ByteArray.mk #[(40 : UInt8)]) (mR nx pa er)).pa
 (exR ws en (ByteArray.mk #[(40 : UInt8)]) (mR nx pa er)).er)).snd.er)).er)
 (0 : Int) ∧
 left ws
 (mR
 (cmR ws en
 (mR
 (smX en ws (0 : Int)
 (mR (exR ws en (ByteArray.mk #[(40 : UInt8)]) (mR nx pa er)).nx (exR ws en (ByteArray.mk #[(40 : UInt8)]) (mR nx pa er)).pa
 (exR ws en (ByteArray.mk #[(40 : UInt8)]) (mR nx pa er)).er)).snd.nx
 (smX en ws (0 : Int)
 (mR (exR ws en (ByteArray.mk #[(40 : UInt8)]) (mR nx pa er)).nx (exR ws en (ByteArray.mk #[(40 : UInt8)]) (mR nx pa er)).pa
 (exR ws en (ByteArray.mk #[(40 : UInt8)]) (mR nx pa er)).er)).snd.pa
 (smX en ws (0 : Int)
 (mR (exR ws en (ByteArray.mk #[(40 : UInt8)]) (mR nx pa er)).nx (exR ws en (ByteArray.mk #[(40 : UInt8)]) (mR nx pa er)).pa
 (exR ws en (ByteArray.mk #[(40 : UInt8)]) (mR nx pa er)).er)).snd.er)).nx
 (cmR ws en
 (mR
 (smX en ws (0 : Int)
 (mR (exR ws en (ByteArray.mk #[(40 : UInt8)]) (mR nx pa er)).nx (exR ws en (ByteArray.mk #[(40 : UInt8)]) (mR nx pa er)).pa
 (exR ws en (ByteArray.mk #[(40 : UInt8)]) (mR nx pa er)).er)).snd.nx
 (smX en ws (0 : Int)
 (mR (exR ws en (ByteArray.mk #[(40 : UInt8)]) (mR nx pa er)).nx (exR ws en (ByteArray.mk #[(40 : UInt8)]) (mR nx pa er)).pa
 (exR ws en (ByteArray.mk #[(40 : UInt8)]) (mR nx pa er)).er)).snd.pa
 (smX en ws (0 : Int)
 (mR (exR ws en (ByteArray.mk #[(40 : UInt8)]) (mR nx pa er)).nx (exR ws en (ByteArray.mk #[(40 : UInt8)]) (mR nx pa er)).pa
 (exR ws en (ByteArray.mk #[(40 : UInt8)]) (mR nx pa er)).er)).snd.er)).pa
 (cmR ws en
 (mR
 (smX en ws (0 : Int)
 (mR (exR ws en (ByteArray.mk #[(40 : UInt8)]) (mR nx pa er)).nx (exR ws en (ByteArray.mk #[(40 : UInt8)]) (mR nx pa er)).pa
 (exR ws en (ByteArray.mk #[(40 : UInt8)]) (mR nx pa er)).er)).snd.nx
 (smX en ws (0 : Int)
 (mR (exR ws en (ByteArray.mk #[(40 : UInt8)]) (mR nx pa er)).nx (exR ws en (ByteArray.mk #[(40 : UInt8)]) (mR nx pa er)).pa
 (exR ws en (ByteArray.mk #[(40 : UInt8)]) (mR nx pa er)).er)).snd.pa
 (smX en ws (0 : Int)
 (mR (exR ws en (ByteArray.mk #[(40 : UInt8)]) (mR nx pa er)).nx (exR ws en (ByteArray.mk #[(40 : UInt8)]) (mR nx pa er)).pa
 (exR ws en (ByteArray.mk #[(40 : UInt8)]) (mR nx pa er)).er)).snd.er)).er) <
 (1000001 : Nat) ∧
 rdOK ws
 (smX en ws (0 : Int)
 (mR
 (cmR ws en
 (mR
 (smX en ws (0 : Int)
 (mR (exR ws en (ByteArray.mk #[(40 : UInt8)]) (mR nx pa er)).nx
 (exR ws en (ByteArray.mk #[(40 : UInt8)]) (mR nx pa er)).pa
 (exR ws en (ByteArray.mk #[(40 : UInt8)]) (mR nx pa er)).er)).snd.nx
 (smX en ws (0 : Int)
 (mR (exR ws en (ByteArray.mk #[(40 : UInt8)]) (mR nx pa er)).nx
 (exR ws en (ByteArray.mk #[(40 : UInt8)]) (mR nx pa er)).pa
 (exR ws en (ByteArray.mk #[(40 : UInt8)]) (mR nx pa er)).er)).snd.pa
 (smX en ws (0 : Int)
 (mR (exR ws en (ByteArray.mk #[(40 : UInt8)]) (mR nx pa er)).nx
 (exR ws en (ByteArray.mk #[(40 : UInt8)]) (mR nx pa er)).pa
 (exR ws en (ByteArray.mk #[(40 : UInt8)]) (mR nx pa er)).er)).snd.er)).nx
 (cmR ws en
 (mR
 (smX en ws (0 : Int)
 (mR (exR ws en (ByteArray.mk #[(40 : UInt8)]) (mR nx pa er)).nx
 (exR ws en (ByteArray.mk #[(40 : UInt8)]) (mR nx pa er)).pa
 (exR ws en (ByteArray.mk #[(40 : UInt8)]) (mR nx pa er)).er)).snd.nx
 (smX en ws (0 : Int)
 (mR (exR ws en (ByteArray.mk #[(40 : UInt8)]) (mR nx pa er)).nx
 (exR ws en (ByteArray.mk #[(40 : UInt8)]) (mR nx pa er)).pa
 (exR ws en (ByteArray.mk #[(40 : UInt8)]) (mR nx pa er)).er)).snd.pa
 (smX en ws (0 : Int)
 (mR (exR ws en (ByteArray.mk #[(40 : UInt8)]) (mR nx pa er)).nx
 (exR ws en (ByteArray.mk #[(40 : UInt8)]) (mR nx pa er)).pa
 (exR ws en (ByteArray.mk #[(40 : UInt8)]) (mR nx pa er)).er)).snd.er)).pa
 (cmR ws en
 (mR
 (smX en ws (0 : Int)
 (mR (exR ws en (ByteArray.mk #[(40 : UInt8)]) (mR nx pa er)).nx
 (exR ws en (ByteArray.mk #[(40 : UInt8)]) (mR nx pa er)).pa
 (exR ws en (ByteArray.mk #[(40 : UInt8)]) (mR nx pa er)).er)).snd.nx
 (smX en ws (0 : Int)
 (mR (exR ws en (ByteArray.mk #[(40 : UInt8)]) (mR nx pa er)).nx
 (exR ws en (ByteArray.mk #[(40 : UInt8)]) (mR nx pa er)).pa
 (exR ws en (ByteArray.mk #[(40 : UInt8)]) (mR nx pa er)).er)).snd.pa
 (smX en ws (0 : Int)
 (mR (exR ws en (ByteArray.mk #[(40 : UInt8)]) (mR nx pa er)).nx
 (exR ws en (ByteArray.mk #[(40 : UInt8)]) (mR nx pa er)).pa
 (exR ws en (ByteArray.mk #[(40 : UInt8)]) (mR nx pa er)).er)).snd.er)).er)).snd.nx ∧
 (0 : Nat) < (ByteArray.mk #[(41 : UInt8)]).size ∧
 coK
 (pkS ws
 (smX en ws (0 : Int)
 (mR (exR ws en (ByteArray.mk #[(40 : UInt8)]) (mR nx pa er)).nx (exR ws en (ByteArray.mk #[(40 : UInt8)]) (mR nx pa er)).pa
 (exR ws en (ByteArray.mk #[(40 : UInt8)]) (mR nx pa er)).er)).snd.nx) =
 (cdC ws en (mR nx pa er)).op ∧
 (smX en ws (0 : Int)
 (mR (exR ws en (ByteArray.mk #[(40 : UInt8)]) (mR nx pa er)).nx (exR ws en (ByteArray.mk #[(40 : UInt8)]) (mR nx pa er)).pa
 (exR ws en (ByteArray.mk #[(40 : UInt8)]) (mR nx pa er)).er)).fst.k =
 (cdC ws en (mR nx pa er)).l.k ∧
 (smX en ws (0 : Int)
 (mR (exR ws en (ByteArray.mk #[(40 : UInt8)]) (mR nx pa er)).nx (exR ws en (ByteArray.mk #[(40 : UInt8)]) (mR nx pa er)).pa
 (exR ws en (ByteArray.mk #[(40 : UInt8)]) (mR nx pa er)).er)).fst.n =
 (cdC ws en (mR nx pa er)).l.n ∧
 Value.string
 (smX en ws (0 : Int)
 (mR (exR ws en (ByteArray.mk #[(40 : UInt8)]) (mR nx pa er)).nx (exR ws en (ByteArray.mk #[(40 : UInt8)]) (mR nx pa er)).pa
 (exR ws en (ByteArray.mk #[(40 : UInt8)]) (mR nx pa er)).er)).fst.s =
 Value.string (cdC ws en (mR nx pa er)).l.s ∧
 (smX en ws (0 : Int)
 (mR (exR ws en (ByteArray.mk #[(40 : UInt8)]) (mR nx pa er)).nx
 (exR ws en (ByteArray.mk #[(40 : UInt8)]) (mR nx pa er)).pa
 (exR ws en (ByteArray.mk #[(40 : UInt8)]) (mR nx pa er)).er)).fst.d.len =
 (cdC ws en (mR nx pa er)).l.d.len ∧
 (smX en ws (0 : Int)
 (mR
 (cmR ws en
 (mR
 (smX en ws (0 : Int)
 (mR (exR ws en (ByteArray.mk #[(40 : UInt8)]) (mR nx pa er)).nx
 (exR ws en (ByteArray.mk #[(40 : UInt8)]) (mR nx pa er)).pa
 (exR ws en (ByteArray.mk #[(40 : UInt8)]) (mR nx pa er)).er)).snd.nx
 (smX en ws (0 : Int)
 (mR (exR ws en (ByteArray.mk #[(40 : UInt8)]) (mR nx pa er)).nx
 (exR ws en (ByteArray.mk #[(40 : UInt8)]) (mR nx pa er)).pa
 (exR ws en (ByteArray.mk #[(40 : UInt8)]) (mR nx pa er)).er)).snd.pa
 (smX en ws (0 : Int)
 (mR (exR ws en (ByteArray.mk #[(40 : UInt8)]) (mR nx pa er)).nx
 (exR ws en (ByteArray.mk #[(40 : UInt8)]) (mR nx pa er)).pa
 (exR ws en (ByteArray.mk #[(40 : UInt8)]) (mR nx pa er)).er)).snd.er)).nx
 (cmR ws en
 (mR
 (smX en ws (0 : Int)
 (mR (exR ws en (ByteArray.mk #[(40 : UInt8)]) (mR nx pa er)).nx
 (exR ws en (ByteArray.mk #[(40 : UInt8)]) (mR nx pa er)).pa
 (exR ws en (ByteArray.mk #[(40 : UInt8)]) (mR nx pa er)).er)).snd.nx
 (smX en ws (0 : Int)
 (mR (exR ws en (ByteArray.mk #[(40 : UInt8)]) (mR nx pa er)).nx
 (exR ws en (ByteArray.mk #[(40 : UInt8)]) (mR nx pa er)).pa
 (exR ws en (ByteArray.mk #[(40 : UInt8)]) (mR nx pa er)).er)).snd.pa
 (smX en ws (0 : Int)
 (mR (exR ws en (ByteArray.mk #[(40 : UInt8)]) (mR nx pa er)).nx
 (exR ws en (ByteArray.mk #[(40 : UInt8)]) (mR nx pa er)).pa
 (exR ws en (ByteArray.mk #[(40 : UInt8)]) (mR nx pa er)).er)).snd.er)).pa
 (cmR ws en
 (mR
 (smX en ws (0 : Int)
 (mR (exR ws en (ByteArray.mk #[(40 : UInt8)]) (mR nx pa er)).nx
 (exR ws en (ByteArray.mk #[(40 : UInt8)]) (mR nx pa er)).pa
 (exR ws en (ByteArray.mk #[(40 : UInt8)]) (mR nx pa er)).er)).snd.nx
 (smX en ws (0 : Int)
 (mR (exR ws en (ByteArray.mk #[(40 : UInt8)]) (mR nx pa er)).nx
 (exR ws en (ByteArray.mk #[(40 : UInt8)]) (mR nx pa er)).pa
 (exR ws en (ByteArray.mk #[(40 : UInt8)]) (mR nx pa er)).er)).snd.pa
 (smX en ws (0 : Int)
 (mR (exR ws en (ByteArray.mk #[(40 : UInt8)]) (mR nx pa er)).nx
 (exR ws en (ByteArray.mk #[(40 : UInt8)]) (mR nx pa er)).pa
 (exR ws en (ByteArray.mk #[(40 : UInt8)]) (mR nx pa er)).er)).snd.er)).er)).fst.k =
 (cdC ws en (mR nx pa er)).r.k ∧
 (smX en ws (0 : Int)
 (mR
 (cmR ws en
 (mR
 (smX en ws (0 : Int)
 (mR (exR ws en (ByteArray.mk #[(40 : UInt8)]) (mR nx pa er)).nx
 (exR ws en (ByteArray.mk #[(40 : UInt8)]) (mR nx pa er)).pa
 (exR ws en (ByteArray.mk #[(40 : UInt8)]) (mR nx pa er)).er)).snd.nx
 (smX en ws (0 : Int)
 (mR (exR ws en (ByteArray.mk #[(40 : UInt8)]) (mR nx pa er)).nx
 (exR ws en (ByteArray.mk #[(40 : UInt8)]) (mR nx pa er)).pa
 (exR ws en (ByteArray.mk #[(40 : UInt8)]) (mR nx pa er)).er)).snd.pa
 (smX en ws (0 : Int)
 (mR (exR ws en (ByteArray.mk #[(40 : UInt8)]) (mR nx pa er)).nx
 (exR ws en (ByteArray.mk #[(40 : UInt8)]) (mR nx pa er)).pa
 (exR ws en (ByteArray.mk #[(40 : UInt8)]) (mR nx pa er)).er)).snd.er)).nx
 (cmR ws en
 (mR
 (smX en ws (0 : Int)
 (mR (exR ws en (ByteArray.mk #[(40 : UInt8)]) (mR nx pa er)).nx
 (exR ws en (ByteArray.mk #[(40 : UInt8)]) (mR nx pa er)).pa
 (exR ws en (ByteArray.mk #[(40 : UInt8)]) (mR nx pa er)).er)).snd.nx
 (smX en ws (0 : Int)
 (mR (exR ws en (ByteArray.mk #[(40 : UInt8)]) (mR nx pa er)).nx
 (exR ws en (ByteArray.mk #[(40 : UInt8)]) (mR nx pa er)).pa
 (exR ws en (ByteArray.mk #[(40 : UInt8)]) (mR nx pa er)).er)).snd.pa
 (smX en ws (0 : Int)
 (mR (exR ws en (ByteArray.mk #[(40 : UInt8)]) (mR nx pa er)).nx
 (exR ws en (ByteArray.mk #[(40 : UInt8)]) (mR nx pa er)).pa
 (exR ws en (ByteArray.mk #[(40 : UInt8)]) (mR nx pa er)).er)).snd.er)).pa
 (cmR ws en
 (mR
 (smX en ws (0 : Int)
 (mR (exR ws en (ByteArray.mk #[(40 : UInt8)]) (mR nx pa er)).nx
 (exR ws en (ByteArray.mk #[(40 : UInt8)]) (mR nx pa er)).pa
 (exR ws en (ByteArray.mk #[(40 : UInt8)]) (mR nx pa er)).er)).snd.nx
 (smX en ws (0 : Int)
 (mR (exR ws en (ByteArray.mk #[(40 : UInt8)]) (mR nx pa er)).nx
 (exR ws en (ByteArray.mk #[(40 : UInt8)]) (mR nx pa er)).pa
 (exR ws en (ByteArray.mk #[(40 : UInt8)]) (mR nx pa er)).er)).snd.pa
 (smX en ws (0 : Int)
 (mR (exR ws en (ByteArray.mk #[(40 : UInt8)]) (mR nx pa er)).nx
 (exR ws en (ByteArray.mk #[(40 : UInt8)]) (mR nx pa er)).pa
 (exR ws en (ByteArray.mk #[(40 : UInt8)]) (mR nx pa er)).er)).snd.er)).er)).fst.n =
 (cdC ws en (mR nx pa er)).r.n ∧
 Value.string
 (smX en ws (0 : Int)
 (mR
 (cmR ws en
 (mR
 (smX en ws (0 : Int)
 (mR (exR ws en (ByteArray.mk #[(40 : UInt8)]) (mR nx pa er)).nx
 (exR ws en (ByteArray.mk #[(40 : UInt8)]) (mR nx pa er)).pa
 (exR ws en (ByteArray.mk #[(40 : UInt8)]) (mR nx pa er)).er)).snd.nx
 (smX en ws (0 : Int)
 (mR (exR ws en (ByteArray.mk #[(40 : UInt8)]) (mR nx pa er)).nx
 (exR ws en (ByteArray.mk #[(40 : UInt8)]) (mR nx pa er)).pa
 (exR ws en (ByteArray.mk #[(40 : UInt8)]) (mR nx pa er)).er)).snd.pa
 (smX en ws (0 : Int)
 (mR (exR ws en (ByteArray.mk #[(40 : UInt8)]) (mR nx pa er)).nx
 (exR ws en (ByteArray.mk #[(40 : UInt8)]) (mR nx pa er)).pa
 (exR ws en (ByteArray.mk #[(40 : UInt8)]) (mR nx pa er)).er)).snd.er)).nx
 (cmR ws en
 (mR
 (smX en ws (0 : Int)
 (mR (exR ws en (ByteArray.mk #[(40 : UInt8)]) (mR nx pa er)).nx
 (exR ws en (ByteArray.mk #[(40 : UInt8)]) (mR nx pa er)).pa
 (exR ws en (ByteArray.mk #[(40 : UInt8)]) (mR nx pa er)).er)).snd.nx
 (smX en ws (0 : Int)
 (mR (exR ws en (ByteArray.mk #[(40 : UInt8)]) (mR nx pa er)).nx
 (exR ws en (ByteArray.mk #[(40 : UInt8)]) (mR nx pa er)).pa
 (exR ws en (ByteArray.mk #[(40 : UInt8)]) (mR nx pa er)).er)).snd.pa
 (smX en ws (0 : Int)
 (mR (exR ws en (ByteArray.mk #[(40 : UInt8)]) (mR nx pa er)).nx
 (exR ws en (ByteArray.mk #[(40 : UInt8)]) (mR nx pa er)).pa
 (exR ws en (ByteArray.mk #[(40 : UInt8)]) (mR nx pa er)).er)).snd.er)).pa
 (cmR ws en
 (mR
 (smX en ws (0 : Int)
 (mR (exR ws en (ByteArray.mk #[(40 : UInt8)]) (mR nx pa er)).nx
 (exR ws en (ByteArray.mk #[(40 : UInt8)]) (mR nx pa er)).pa
 (exR ws en (ByteArray.mk #[(40 : UInt8)]) (mR nx pa er)).er)).snd.nx
 (smX en ws (0 : Int)
 (mR (exR ws en (ByteArray.mk #[(40 : UInt8)]) (mR nx pa er)).nx
 (exR ws en (ByteArray.mk #[(40 : UInt8)]) (mR nx pa er)).pa
 (exR ws en (ByteArray.mk #[(40 : UInt8)]) (mR nx pa er)).er)).snd.pa
 (smX en ws (0 : Int)
 (mR (exR ws en (ByteArray.mk #[(40 : UInt8)]) (mR nx pa er)).nx
 (exR ws en (ByteArray.mk #[(40 : UInt8)]) (mR nx pa er)).pa
 (exR ws en (ByteArray.mk #[(40 : UInt8)]) (mR nx pa er)).er)).snd.er)).er)).fst.s =
 Value.string (cdC ws en (mR nx pa er)).r.s ∧
 (smX en ws (0 : Int)
 (mR
 (cmR ws en
 (mR
 (smX en ws (0 : Int)
 (mR (exR ws en (ByteArray.mk #[(40 : UInt8)]) (mR nx pa er)).nx
 (exR ws en (ByteArray.mk #[(40 : UInt8)]) (mR nx pa er)).pa
 (exR ws en (ByteArray.mk #[(40 : UInt8)]) (mR nx pa er)).er)).snd.nx
 (smX en ws (0 : Int)
 (mR (exR ws en (ByteArray.mk #[(40 : UInt8)]) (mR nx pa er)).nx
 (exR ws en (ByteArray.mk #[(40 : UInt8)]) (mR nx pa er)).pa
 (exR ws en (ByteArray.mk #[(40 : UInt8)]) (mR nx pa er)).er)).snd.pa
 (smX en ws (0 : Int)
 (mR (exR ws en (ByteArray.mk #[(40 : UInt8)]) (mR nx pa er)).nx
 (exR ws en (ByteArray.mk #[(40 : UInt8)]) (mR nx pa er)).pa
 (exR ws en (ByteArray.mk #[(40 : UInt8)]) (mR nx pa er)).er)).snd.er)).nx
 (cmR ws en
 (mR
 (smX en ws (0 : Int)
 (mR (exR ws en (ByteArray.mk #[(40 : UInt8)]) (mR nx pa er)).nx
 (exR ws en (ByteArray.mk #[(40 : UInt8)]) (mR nx pa er)).pa
 (exR ws en (ByteArray.mk #[(40 : UInt8)]) (mR nx pa er)).er)).snd.nx
 (smX en ws (0 : Int)
 (mR (exR ws en (ByteArray.mk #[(40 : UInt8)]) (mR nx pa er)).nx
 (exR ws en (ByteArray.mk #[(40 : UInt8)]) (mR nx pa er)).pa
 (exR ws en (ByteArray.mk #[(40 : UInt8)]) (mR nx pa er)).er)).snd.pa
 (smX en ws (0 : Int)
 (mR (exR ws en (ByteArray.mk #[(40 : UInt8)]) (mR nx pa er)).nx
 (exR ws en (ByteArray.mk #[(40 : UInt8)]) (mR nx pa er)).pa
 (exR ws en (ByteArray.mk #[(40 : UInt8)]) (mR nx pa er)).er)).snd.er)).pa
 (cmR ws en
 (mR
 (smX en ws (0 : Int)
 (mR (exR ws en (ByteArray.mk #[(40 : UInt8)]) (mR nx pa er)).nx
 (exR ws en (ByteArray.mk #[(40 : UInt8)]) (mR nx pa er)).pa
 (exR ws en (ByteArray.mk #[(40 : UInt8)]) (mR nx pa er)).er)).snd.nx
 (smX en ws (0 : Int)
 (mR (exR ws en (ByteArray.mk #[(40 : UInt8)]) (mR nx pa er)).nx
 (exR ws en (ByteArray.mk #[(40 : UInt8)]) (mR nx pa er)).pa
 (exR ws en (ByteArray.mk #[(40 : UInt8)]) (mR nx pa er)).er)).snd.pa
 (smX en ws (0 : Int)
 (mR (exR ws en (ByteArray.mk #[(40 : UInt8)]) (mR nx pa er)).nx
 (exR ws en (ByteArray.mk #[(40 : UInt8)]) (mR nx pa er)).pa
 (exR ws en (ByteArray.mk #[(40 : UInt8)]) (mR nx pa er)).er)).snd.er)).er)).fst.d.len =
 (cdC ws en (mR nx pa er)).r.d.len ∧
 ws.rows = ws.rows ∧
 (exR ws en (ByteArray.mk #[(41 : UInt8)])
 (mR
 (smX en ws (0 : Int)
 (mR
 (cmR ws en
 (mR
 (smX en ws (0 : Int)
 (mR (exR ws en (ByteArray.mk #[(40 : UInt8)]) (mR nx pa er)).nx
 (exR ws en (ByteArray.mk #[(40 : UInt8)]) (mR nx pa er)).pa
 (exR ws en (ByteArray.mk #[(40 : UInt8)]) (mR nx pa er)).er)).snd.nx
 (smX en ws (0 : Int)
 (mR (exR ws en (ByteArray.mk #[(40 : UInt8)]) (mR nx pa er)).nx
 (exR ws en (ByteArray.mk #[(40 : UInt8)]) (mR nx pa er)).pa
 (exR ws en (ByteArray.mk #[(40 : UInt8)]) (mR nx pa er)).er)).snd.pa
 (smX en ws (0 : Int)
 (mR (exR ws en (ByteArray.mk #[(40 : UInt8)]) (mR nx pa er)).nx
 (exR ws en (ByteArray.mk #[(40 : UInt8)]) (mR nx pa er)).pa
 (exR ws en (ByteArray.mk #[(40 : UInt8)]) (mR nx pa er)).er)).snd.er)).nx
 (cmR ws en
 (mR
 (smX en ws (0 : Int)
 (mR (exR ws en (ByteArray.mk #[(40 : UInt8)]) (mR nx pa er)).nx
 (exR ws en (ByteArray.mk #[(40 : UInt8)]) (mR nx pa er)).pa
 (exR ws en (ByteArray.mk #[(40 : UInt8)]) (mR nx pa er)).er)).snd.nx
 (smX en ws (0 : Int)
 (mR (exR ws en (ByteArray.mk #[(40 : UInt8)]) (mR nx pa er)).nx
 (exR ws en (ByteArray.mk #[(40 : UInt8)]) (mR nx pa er)).pa
 (exR ws en (ByteArray.mk #[(40 : UInt8)]) (mR nx pa er)).er)).snd.pa
 (smX en ws (0 : Int)
 (mR (exR ws en (ByteArray.mk #[(40 : UInt8)]) (mR nx pa er)).nx
 (exR ws en (ByteArray.mk #[(40 : UInt8)]) (mR nx pa er)).pa
 (exR ws en (ByteArray.mk #[(40 : UInt8)]) (mR nx pa er)).er)).snd.er)).pa
 (cmR ws en
 (mR
 (smX en ws (0 : Int)
 (mR (exR ws en (ByteArray.mk #[(40 : UInt8)]) (mR nx pa er)).nx
 (exR ws en (ByteArray.mk #[(40 : UInt8)]) (mR nx pa er)).pa
 (exR ws en (ByteArray.mk #[(40 : UInt8)]) (mR nx pa er)).er)).snd.nx
 (smX en ws (0 : Int)
 (mR (exR ws en (ByteArray.mk #[(40 : UInt8)]) (mR nx pa er)).nx
 (exR ws en (ByteArray.mk #[(40 : UInt8)]) (mR nx pa er)).pa
 (exR ws en (ByteArray.mk #[(40 : UInt8)]) (mR nx pa er)).er)).snd.pa
 (smX en ws (0 : Int)
 (mR (exR ws en (ByteArray.mk #[(40 : UInt8)]) (mR nx pa er)).nx
 (exR ws en (ByteArray.mk #[(40 : UInt8)]) (mR nx pa er)).pa
 (exR ws en (ByteArray.mk #[(40 : UInt8)]) (mR nx pa er)).er)).snd.er)).er)).snd.nx
 (smX en ws (0 : Int)
 (mR
 (cmR ws en
 (mR
 (smX en ws (0 : Int)
 (mR (exR ws en (ByteArray.mk #[(40 : UInt8)]) (mR nx pa er)).nx
 (exR ws en (ByteArray.mk #[(40 : UInt8)]) (mR nx pa er)).pa
 (exR ws en (ByteArray.mk #[(40 : UInt8)]) (mR nx pa er)).er)).snd.nx
 (smX en ws (0 : Int)
 (mR (exR ws en (ByteArray.mk #[(40 : UInt8)]) (mR nx pa er)).nx
 (exR ws en (ByteArray.mk #[(40 : UInt8)]) (mR nx pa er)).pa
 (exR ws en (ByteArray.mk #[(40 : UInt8)]) (mR nx pa er)).er)).snd.pa
 (smX en ws (0 : Int)
 (mR (exR ws en (ByteArray.mk #[(40 : UInt8)]) (mR nx pa er)).nx
 (exR ws en (ByteArray.mk #[(40 : UInt8)]) (mR nx pa er)).pa
 (exR ws en (ByteArray.mk #[(40 : UInt8)]) (mR nx pa er)).er)).snd.er)).nx
 (cmR ws en
 (mR
 (smX en ws (0 : Int)
 (mR (exR ws en (ByteArray.mk #[(40 : UInt8)]) (mR nx pa er)).nx
 (exR ws en (ByteArray.mk #[(40 : UInt8)]) (mR nx pa er)).pa
 (exR ws en (ByteArray.mk #[(40 : UInt8)]) (mR nx pa er)).er)).snd.nx
 (smX en ws (0 : Int)
 (mR (exR ws en (ByteArray.mk #[(40 : UInt8)]) (mR nx pa er)).nx
 (exR ws en (ByteArray.mk #[(40 : UInt8)]) (mR nx pa er)).pa
 (exR ws en (ByteArray.mk #[(40 : UInt8)]) (mR nx pa er)).er)).snd.pa
 (smX en ws (0 : Int)
 (mR (exR ws en (ByteArray.mk #[(40 : UInt8)]) (mR nx pa er)).nx
 (exR ws en (ByteArray.mk #[(40 : UInt8)]) (mR nx pa er)).pa
 (exR ws en (ByteArray.mk #[(40 : UInt8)]) (mR nx pa er)).er)).snd.er)).pa
 (cmR ws en
 (mR
 (smX en ws (0 : Int)
 (mR (exR ws en (ByteArray.mk #[(40 : UInt8)]) (mR nx pa er)).nx
 (exR ws en (ByteArray.mk #[(40 : UInt8)]) (mR nx pa er)).pa
 (exR ws en (ByteArray.mk #[(40 : UInt8)]) (mR nx pa er)).er)).snd.nx
 (smX en ws (0 : Int)
 (mR (exR ws en (ByteArray.mk #[(40 : UInt8)]) (mR nx pa er)).nx
 (exR ws en (ByteArray.mk #[(40 : UInt8)]) (mR nx pa er)).pa
 (exR ws en (ByteArray.mk #[(40 : UInt8)]) (mR nx pa er)).er)).snd.pa
 (smX en ws (0 : Int)
 (mR (exR ws en (ByteArray.mk #[(40 : UInt8)]) (mR nx pa er)).nx
 (exR ws en (ByteArray.mk #[(40 : UInt8)]) (mR nx pa er)).pa
 (exR ws en (ByteArray.mk #[(40 : UInt8)]) (mR nx pa er)).er)).snd.er)).er)).snd.pa
 (smX en ws (0 : Int)
 (mR
 (cmR ws en
 (mR
 (smX en ws (0 : Int)
 (mR (exR ws en (ByteArray.mk #[(40 : UInt8)]) (mR nx pa er)).nx
 (exR ws en (ByteArray.mk #[(40 : UInt8)]) (mR nx pa er)).pa
 (exR ws en (ByteArray.mk #[(40 : UInt8)]) (mR nx pa er)).er)).snd.nx
 (smX en ws (0 : Int)
 (mR (exR ws en (ByteArray.mk #[(40 : UInt8)]) (mR nx pa er)).nx
 (exR ws en (ByteArray.mk #[(40 : UInt8)]) (mR nx pa er)).pa
 (exR ws en (ByteArray.mk #[(40 : UInt8)]) (mR nx pa er)).er)).snd.pa
 (smX en ws (0 : Int)
 (mR (exR ws en (ByteArray.mk #[(40 : UInt8)]) (mR nx pa er)).nx
 (exR ws en (ByteArray.mk #[(40 : UInt8)]) (mR nx pa er)).pa
 (exR ws en (ByteArray.mk #[(40 : UInt8)]) (mR nx pa er)).er)).snd.er)).nx
 (cmR ws en
 (mR
 (smX en ws (0 : Int)
 (mR (exR ws en (ByteArray.mk #[(40 : UInt8)]) (mR nx pa er)).nx
 (exR ws en (ByteArray.mk #[(40 : UInt8)]) (mR nx pa er)).pa
 (exR ws en (ByteArray.mk #[(40 : UInt8)]) (mR nx pa er)).er)).snd.nx
 (smX en ws (0 : Int)
 (mR (exR ws en (ByteArray.mk #[(40 : UInt8)]) (mR nx pa er)).nx
 (exR ws en (ByteArray.mk #[(40 : UInt8)]) (mR nx pa er)).pa
 (exR ws en (ByteArray.mk #[(40 : UInt8)]) (mR nx pa er)).er)).snd.pa
 (smX en ws (0 : Int)
 (mR (exR ws en (ByteArray.mk #[(40 : UInt8)]) (mR nx pa er)).nx
 (exR ws en (ByteArray.mk #[(40 : UInt8)]) (mR nx pa er)).pa
 (exR ws en (ByteArray.mk #[(40 : UInt8)]) (mR nx pa er)).er)).snd.er)).pa
 (cmR ws en
 (mR
 (smX en ws (0 : Int)
 (mR (exR ws en (ByteArray.mk #[(40 : UInt8)]) (mR nx pa er)).nx
 (exR ws en (ByteArray.mk #[(40 : UInt8)]) (mR nx pa er)).pa
 (exR ws en (ByteArray.mk #[(40 : UInt8)]) (mR nx pa er)).er)).snd.nx
 (smX en ws (0 : Int)
 (mR (exR ws en (ByteArray.mk #[(40 : UInt8)]) (mR nx pa er)).nx
 (exR ws en (ByteArray.mk #[(40 : UInt8)]) (mR nx pa er)).pa
 (exR ws en (ByteArray.mk #[(40 : UInt8)]) (mR nx pa er)).er)).snd.pa
 (smX en ws (0 : Int)
 (mR (exR ws en (ByteArray.mk #[(40 : UInt8)]) (mR nx pa er)).nx
 (exR ws en (ByteArray.mk #[(40 : UInt8)]) (mR nx pa er)).pa
 (exR ws en (ByteArray.mk #[(40 : UInt8)])
 (mR nx pa er)).er)).snd.er)).er)).snd.er)).nx =
 (cdR ws en (mR nx pa er)).nx ∧
 en = en ∧
 (exR ws en (ByteArray.mk #[(41 : UInt8)])
 (mR
 (smX en ws (0 : Int)
 (mR
 (cmR ws en
 (mR
 (smX en ws (0 : Int)
 (mR (exR ws en (ByteArray.mk #[(40 : UInt8)]) (mR nx pa er)).nx
 (exR ws en (ByteArray.mk #[(40 : UInt8)]) (mR nx pa er)).pa
 (exR ws en (ByteArray.mk #[(40 : UInt8)]) (mR nx pa er)).er)).snd.nx
 (smX en ws (0 : Int)
 (mR (exR ws en (ByteArray.mk #[(40 : UInt8)]) (mR nx pa er)).nx
 (exR ws en (ByteArray.mk #[(40 : UInt8)]) (mR nx pa er)).pa
 (exR ws en (ByteArray.mk #[(40 : UInt8)]) (mR nx pa er)).er)).snd.pa
 (smX en ws (0 : Int)
 (mR (exR ws en (ByteArray.mk #[(40 : UInt8)]) (mR nx pa er)).nx
 (exR ws en (ByteArray.mk #[(40 : UInt8)]) (mR nx pa er)).pa
 (exR ws en (ByteArray.mk #[(40 : UInt8)]) (mR nx pa er)).er)).snd.er)).nx
 (cmR ws en
 (mR
 (smX en ws (0 : Int)
 (mR (exR ws en (ByteArray.mk #[(40 : UInt8)]) (mR nx pa er)).nx
 (exR ws en (ByteArray.mk #[(40 : UInt8)]) (mR nx pa er)).pa
 (exR ws en (ByteArray.mk #[(40 : UInt8)]) (mR nx pa er)).er)).snd.nx
 (smX en ws (0 : Int)
 (mR (exR ws en (ByteArray.mk #[(40 : UInt8)]) (mR nx pa er)).nx
 (exR ws en (ByteArray.mk #[(40 : UInt8)]) (mR nx pa er)).pa
 (exR ws en (ByteArray.mk #[(40 : UInt8)]) (mR nx pa er)).er)).snd.pa
 (smX en ws (0 : Int)
 (mR (exR ws en (ByteArray.mk #[(40 : UInt8)]) (mR nx pa er)).nx
 (exR ws en (ByteArray.mk #[(40 : UInt8)]) (mR nx pa er)).pa
 (exR ws en (ByteArray.mk #[(40 : UInt8)]) (mR nx pa er)).er)).snd.er)).pa
 (cmR ws en
 (mR
 (smX en ws (0 : Int)
 (mR (exR ws en (ByteArray.mk #[(40 : UInt8)]) (mR nx pa er)).nx
 (exR ws en (ByteArray.mk #[(40 : UInt8)]) (mR nx pa er)).pa
 (exR ws en (ByteArray.mk #[(40 : UInt8)]) (mR nx pa er)).er)).snd.nx
 (smX en ws (0 : Int)
 (mR (exR ws en (ByteArray.mk #[(40 : UInt8)]) (mR nx pa er)).nx
 (exR ws en (ByteArray.mk #[(40 : UInt8)]) (mR nx pa er)).pa
 (exR ws en (ByteArray.mk #[(40 : UInt8)]) (mR nx pa er)).er)).snd.pa
 (smX en ws (0 : Int)
 (mR (exR ws en (ByteArray.mk #[(40 : UInt8)]) (mR nx pa er)).nx
 (exR ws en (ByteArray.mk #[(40 : UInt8)]) (mR nx pa er)).pa
 (exR ws en (ByteArray.mk #[(40 : UInt8)]) (mR nx pa er)).er)).snd.er)).er)).snd.nx
 (smX en ws (0 : Int)
 (mR
 (cmR ws en
 (mR
 (smX en ws (0 : Int)
 (mR (exR ws en (ByteArray.mk #[(40 : UInt8)]) (mR nx pa er)).nx
 (exR ws en (ByteArray.mk #[(40 : UInt8)]) (mR nx pa er)).pa
 (exR ws en (ByteArray.mk #[(40 : UInt8)]) (mR nx pa er)).er)).snd.nx
 (smX en ws (0 : Int)
 (mR (exR ws en (ByteArray.mk #[(40 : UInt8)]) (mR nx pa er)).nx
 (exR ws en (ByteArray.mk #[(40 : UInt8)]) (mR nx pa er)).pa
 (exR ws en (ByteArray.mk #[(40 : UInt8)]) (mR nx pa er)).er)).snd.pa
 (smX en ws (0 : Int)
 (mR (exR ws en (ByteArray.mk #[(40 : UInt8)]) (mR nx pa er)).nx
 (exR ws en (ByteArray.mk #[(40 : UInt8)]) (mR nx pa er)).pa
 (exR ws en (ByteArray.mk #[(40 : UInt8)]) (mR nx pa er)).er)).snd.er)).nx
 (cmR ws en
 (mR
 (smX en ws (0 : Int)
 (mR (exR ws en (ByteArray.mk #[(40 : UInt8)]) (mR nx pa er)).nx
 (exR ws en (ByteArray.mk #[(40 : UInt8)]) (mR nx pa er)).pa
 (exR ws en (ByteArray.mk #[(40 : UInt8)]) (mR nx pa er)).er)).snd.nx
 (smX en ws (0 : Int)
 (mR (exR ws en (ByteArray.mk #[(40 : UInt8)]) (mR nx pa er)).nx
 (exR ws en (ByteArray.mk #[(40 : UInt8)]) (mR nx pa er)).pa
 (exR ws en (ByteArray.mk #[(40 : UInt8)]) (mR nx pa er)).er)).snd.pa
 (smX en ws (0 : Int)
 (mR (exR ws en (ByteArray.mk #[(40 : UInt8)]) (mR nx pa er)).nx
 (exR ws en (ByteArray.mk #[(40 : UInt8)]) (mR nx pa er)).pa
 (exR ws en (ByteArray.mk #[(40 : UInt8)]) (mR nx pa er)).er)).snd.er)).pa
 (cmR ws en
 (mR
 (smX en ws (0 : Int)
 (mR (exR ws en (ByteArray.mk #[(40 : UInt8)]) (mR nx pa er)).nx
 (exR ws en (ByteArray.mk #[(40 : UInt8)]) (mR nx pa er)).pa
 (exR ws en (ByteArray.mk #[(40 : UInt8)]) (mR nx pa er)).er)).snd.nx
 (smX en ws (0 : Int)
 (mR (exR ws en (ByteArray.mk #[(40 : UInt8)]) (mR nx pa er)).nx
 (exR ws en (ByteArray.mk #[(40 : UInt8)]) (mR nx pa er)).pa
 (exR ws en (ByteArray.mk #[(40 : UInt8)]) (mR nx pa er)).er)).snd.pa
 (smX en ws (0 : Int)
 (mR (exR ws en (ByteArray.mk #[(40 : UInt8)]) (mR nx pa er)).nx
 (exR ws en (ByteArray.mk #[(40 : UInt8)]) (mR nx pa er)).pa
 (exR ws en (ByteArray.mk #[(40 : UInt8)]) (mR nx pa er)).er)).snd.er)).er)).snd.pa
 (smX en ws (0 : Int)
 (mR
 (cmR ws en
 (mR
 (smX en ws (0 : Int)
 (mR (exR ws en (ByteArray.mk #[(40 : UInt8)]) (mR nx pa er)).nx
 (exR ws en (ByteArray.mk #[(40 : UInt8)]) (mR nx pa er)).pa
 (exR ws en (ByteArray.mk #[(40 : UInt8)]) (mR nx pa er)).er)).snd.nx
 (smX en ws (0 : Int)
 (mR (exR ws en (ByteArray.mk #[(40 : UInt8)]) (mR nx pa er)).nx
 (exR ws en (ByteArray.mk #[(40 : UInt8)]) (mR nx pa er)).pa
 (exR ws en (ByteArray.mk #[(40 : UInt8)]) (mR nx pa er)).er)).snd.pa
 (smX en ws (0 : Int)
 (mR (exR ws en (ByteArray.mk #[(40 : UInt8)]) (mR nx pa er)).nx
 (exR ws en (ByteArray.mk #[(40 : UInt8)]) (mR nx pa er)).pa
 (exR ws en (ByteArray.mk #[(40 : UInt8)]) (mR nx pa er)).er)).snd.er)).nx
 (cmR ws en
 (mR
 (smX en ws (0 : Int)
 (mR (exR ws en (ByteArray.mk #[(40 : UInt8)]) (mR nx pa er)).nx
 (exR ws en (ByteArray.mk #[(40 : UInt8)]) (mR nx pa er)).pa
 (exR ws en (ByteArray.mk #[(40 : UInt8)]) (mR nx pa er)).er)).snd.nx
 (smX en ws (0 : Int)
 (mR (exR ws en (ByteArray.mk #[(40 : UInt8)]) (mR nx pa er)).nx
 (exR ws en (ByteArray.mk #[(40 : UInt8)]) (mR nx pa er)).pa
 (exR ws en (ByteArray.mk #[(40 : UInt8)]) (mR nx pa er)).er)).snd.pa
 (smX en ws (0 : Int)
 (mR (exR ws en (ByteArray.mk #[(40 : UInt8)]) (mR nx pa er)).nx
 (exR ws en (ByteArray.mk #[(40 : UInt8)]) (mR nx pa er)).pa
 (exR ws en (ByteArray.mk #[(40 : UInt8)]) (mR nx pa er)).er)).snd.er)).pa
 (cmR ws en
 (mR
 (smX en ws (0 : Int)
 (mR (exR ws en (ByteArray.mk #[(40 : UInt8)]) (mR nx pa er)).nx
 (exR ws en (ByteArray.mk #[(40 : UInt8)]) (mR nx pa er)).pa
 (exR ws en (ByteArray.mk #[(40 : UInt8)]) (mR nx pa er)).er)).snd.nx
 (smX en ws (0 : Int)
 (mR (exR ws en (ByteArray.mk #[(40 : UInt8)]) (mR nx pa er)).nx
 (exR ws en (ByteArray.mk #[(40 : UInt8)]) (mR nx pa er)).pa
 (exR ws en (ByteArray.mk #[(40 : UInt8)]) (mR nx pa er)).er)).snd.pa
 (smX en ws (0 : Int)
 (mR (exR ws en (ByteArray.mk #[(40 : UInt8)]) (mR nx pa er)).nx
 (exR ws en (ByteArray.mk #[(40 : UInt8)]) (mR nx pa er)).pa
 (exR ws en (ByteArray.mk #[(40 : UInt8)])
 (mR nx pa er)).er)).snd.er)).er)).snd.er)).pa =
 (cdR ws en (mR nx pa er)).pa ∧
 (exR ws en (ByteArray.mk #[(41 : UInt8)])
 (mR
 (smX en ws (0 : Int)
 (mR
 (cmR ws en
 (mR
 (smX en ws (0 : Int)
 (mR (exR ws en (ByteArray.mk #[(40 : UInt8)]) (mR nx pa er)).nx
 (exR ws en (ByteArray.mk #[(40 : UInt8)]) (mR nx pa er)).pa
 (exR ws en (ByteArray.mk #[(40 : UInt8)]) (mR nx pa er)).er)).snd.nx
 (smX en ws (0 : Int)
 (mR (exR ws en (ByteArray.mk #[(40 : UInt8)]) (mR nx pa er)).nx
 (exR ws en (ByteArray.mk #[(40 : UInt8)]) (mR nx pa er)).pa
 (exR ws en (ByteArray.mk #[(40 : UInt8)]) (mR nx pa er)).er)).snd.pa
 (smX en ws (0 : Int)
 (mR (exR ws en (ByteArray.mk #[(40 : UInt8)]) (mR nx pa er)).nx
 (exR ws en (ByteArray.mk #[(40 : UInt8)]) (mR nx pa er)).pa
 (exR ws en (ByteArray.mk #[(40 : UInt8)]) (mR nx pa er)).er)).snd.er)).nx
 (cmR ws en
 (mR
 (smX en ws (0 : Int)
 (mR (exR ws en (ByteArray.mk #[(40 : UInt8)]) (mR nx pa er)).nx
 (exR ws en (ByteArray.mk #[(40 : UInt8)]) (mR nx pa er)).pa
 (exR ws en (ByteArray.mk #[(40 : UInt8)]) (mR nx pa er)).er)).snd.nx
 (smX en ws (0 : Int)
 (mR (exR ws en (ByteArray.mk #[(40 : UInt8)]) (mR nx pa er)).nx
 (exR ws en (ByteArray.mk #[(40 : UInt8)]) (mR nx pa er)).pa
 (exR ws en (ByteArray.mk #[(40 : UInt8)]) (mR nx pa er)).er)).snd.pa
 (smX en ws (0 : Int)
 (mR (exR ws en (ByteArray.mk #[(40 : UInt8)]) (mR nx pa er)).nx
 (exR ws en (ByteArray.mk #[(40 : UInt8)]) (mR nx pa er)).pa
 (exR ws en (ByteArray.mk #[(40 : UInt8)]) (mR nx pa er)).er)).snd.er)).pa
 (cmR ws en
 (mR
 (smX en ws (0 : Int)
 (mR (exR ws en (ByteArray.mk #[(40 : UInt8)]) (mR nx pa er)).nx
 (exR ws en (ByteArray.mk #[(40 : UInt8)]) (mR nx pa er)).pa
 (exR ws en (ByteArray.mk #[(40 : UInt8)]) (mR nx pa er)).er)).snd.nx
 (smX en ws (0 : Int)
 (mR (exR ws en (ByteArray.mk #[(40 : UInt8)]) (mR nx pa er)).nx
 (exR ws en (ByteArray.mk #[(40 : UInt8)]) (mR nx pa er)).pa
 (exR ws en (ByteArray.mk #[(40 : UInt8)]) (mR nx pa er)).er)).snd.pa
 (smX en ws (0 : Int)
 (mR (exR ws en (ByteArray.mk #[(40 : UInt8)]) (mR nx pa er)).nx
 (exR ws en (ByteArray.mk #[(40 : UInt8)]) (mR nx pa er)).pa
 (exR ws en (ByteArray.mk #[(40 : UInt8)])
 (mR nx pa er)).er)).snd.er)).er)).snd.nx
 (smX en ws (0 : Int)
 (mR
 (cmR ws en
 (mR
 (smX en ws (0 : Int)
 (mR (exR ws en (ByteArray.mk #[(40 : UInt8)]) (mR nx pa er)).nx
 (exR ws en (ByteArray.mk #[(40 : UInt8)]) (mR nx pa er)).pa
 (exR ws en (ByteArray.mk #[(40 : UInt8)]) (mR nx pa er)).er)).snd.nx
 (smX en ws (0 : Int)
 (mR (exR ws en (ByteArray.mk #[(40 : UInt8)]) (mR nx pa er)).nx
 (exR ws en (ByteArray.mk #[(40 : UInt8)]) (mR nx pa er)).pa
 (exR ws en (ByteArray.mk #[(40 : UInt8)]) (mR nx pa er)).er)).snd.pa
 (smX en ws (0 : Int)
 (mR (exR ws en (ByteArray.mk #[(40 : UInt8)]) (mR nx pa er)).nx
 (exR ws en (ByteArray.mk #[(40 : UInt8)]) (mR nx pa er)).pa
 (exR ws en (ByteArray.mk #[(40 : UInt8)]) (mR nx pa er)).er)).snd.er)).nx
 (cmR ws en
 (mR
 (smX en ws (0 : Int)
 (mR (exR ws en (ByteArray.mk #[(40 : UInt8)]) (mR nx pa er)).nx
 (exR ws en (ByteArray.mk #[(40 : UInt8)]) (mR nx pa er)).pa
 (exR ws en (ByteArray.mk #[(40 : UInt8)]) (mR nx pa er)).er)).snd.nx
 (smX en ws (0 : Int)
 (mR (exR ws en (ByteArray.mk #[(40 : UInt8)]) (mR nx pa er)).nx
 (exR ws en (ByteArray.mk #[(40 : UInt8)]) (mR nx pa er)).pa
 (exR ws en (ByteArray.mk #[(40 : UInt8)]) (mR nx pa er)).er)).snd.pa
 (smX en ws (0 : Int)
 (mR (exR ws en (ByteArray.mk #[(40 : UInt8)]) (mR nx pa er)).nx
 (exR ws en (ByteArray.mk #[(40 : UInt8)]) (mR nx pa er)).pa
 (exR ws en (ByteArray.mk #[(40 : UInt8)]) (mR nx pa er)).er)).snd.er)).pa
 (cmR ws en
 (mR
 (smX en ws (0 : Int)
 (mR (exR ws en (ByteArray.mk #[(40 : UInt8)]) (mR nx pa er)).nx
 (exR ws en (ByteArray.mk #[(40 : UInt8)]) (mR nx pa er)).pa
 (exR ws en (ByteArray.mk #[(40 : UInt8)]) (mR nx pa er)).er)).snd.nx
 (smX en ws (0 : Int)
 (mR (exR ws en (ByteArray.mk #[(40 : UInt8)]) (mR nx pa er)).nx
 (exR ws en (ByteArray.mk #[(40 : UInt8)]) (mR nx pa er)).pa
 (exR ws en (ByteArray.mk #[(40 : UInt8)]) (mR nx pa er)).er)).snd.pa
 (smX en ws (0 : Int)
 (mR (exR ws en (ByteArray.mk #[(40 : UInt8)]) (mR nx pa er)).nx
 (exR ws en (ByteArray.mk #[(40 : UInt8)]) (mR nx pa er)).pa
 (exR ws en (ByteArray.mk #[(40 : UInt8)])
 (mR nx pa er)).er)).snd.er)).er)).snd.pa
 (smX en ws (0 : Int)
 (mR
 (cmR ws en
 (mR
 (smX en ws (0 : Int)
 (mR (exR ws en (ByteArray.mk #[(40 : UInt8)]) (mR nx pa er)).nx
 (exR ws en (ByteArray.mk #[(40 : UInt8)]) (mR nx pa er)).pa
 (exR ws en (ByteArray.mk #[(40 : UInt8)]) (mR nx pa er)).er)).snd.nx
 (smX en ws (0 : Int)
 (mR (exR ws en (ByteArray.mk #[(40 : UInt8)]) (mR nx pa er)).nx
 (exR ws en (ByteArray.mk #[(40 : UInt8)]) (mR nx pa er)).pa
 (exR ws en (ByteArray.mk #[(40 : UInt8)]) (mR nx pa er)).er)).snd.pa
 (smX en ws (0 : Int)
 (mR (exR ws en (ByteArray.mk #[(40 : UInt8)]) (mR nx pa er)).nx
 (exR ws en (ByteArray.mk #[(40 : UInt8)]) (mR nx pa er)).pa
 (exR ws en (ByteArray.mk #[(40 : UInt8)]) (mR nx pa er)).er)).snd.er)).nx
 (cmR ws en
 (mR
 (smX en ws (0 : Int)
 (mR (exR ws en (ByteArray.mk #[(40 : UInt8)]) (mR nx pa er)).nx
 (exR ws en (ByteArray.mk #[(40 : UInt8)]) (mR nx pa er)).pa
 (exR ws en (ByteArray.mk #[(40 : UInt8)]) (mR nx pa er)).er)).snd.nx
 (smX en ws (0 : Int)
 (mR (exR ws en (ByteArray.mk #[(40 : UInt8)]) (mR nx pa er)).nx
 (exR ws en (ByteArray.mk #[(40 : UInt8)]) (mR nx pa er)).pa
 (exR ws en (ByteArray.mk #[(40 : UInt8)]) (mR nx pa er)).er)).snd.pa
 (smX en ws (0 : Int)
 (mR (exR ws en (ByteArray.mk #[(40 : UInt8)]) (mR nx pa er)).nx
 (exR ws en (ByteArray.mk #[(40 : UInt8)]) (mR nx pa er)).pa
 (exR ws en (ByteArray.mk #[(40 : UInt8)]) (mR nx pa er)).er)).snd.er)).pa
 (cmR ws en
 (mR
 (smX en ws (0 : Int)
 (mR (exR ws en (ByteArray.mk #[(40 : UInt8)]) (mR nx pa er)).nx
 (exR ws en (ByteArray.mk #[(40 : UInt8)]) (mR nx pa er)).pa
 (exR ws en (ByteArray.mk #[(40 : UInt8)]) (mR nx pa er)).er)).snd.nx
 (smX en ws (0 : Int)
 (mR (exR ws en (ByteArray.mk #[(40 : UInt8)]) (mR nx pa er)).nx
 (exR ws en (ByteArray.mk #[(40 : UInt8)]) (mR nx pa er)).pa
 (exR ws en (ByteArray.mk #[(40 : UInt8)]) (mR nx pa er)).er)).snd.pa
 (smX en ws (0 : Int)
 (mR (exR ws en (ByteArray.mk #[(40 : UInt8)]) (mR nx pa er)).nx
 (exR ws en (ByteArray.mk #[(40 : UInt8)]) (mR nx pa er)).pa
 (exR ws en (ByteArray.mk #[(40 : UInt8)])
 (mR nx pa er)).er)).snd.er)).er)).snd.er)).er =
 (cdR ws en (mR nx pa er)).er ∧
 (smX en ws (0 : Int)
 (mR (exR ws en (ByteArray.mk #[(40 : UInt8)]) (mR nx pa er)).nx
 (exR ws en (ByteArray.mk #[(40 : UInt8)]) (mR nx pa er)).pa
 (exR ws en (ByteArray.mk #[(40 : UInt8)]) (mR nx pa er)).er)).fst.d.rows =
 (cdC ws en (mR nx pa er)).l.d.rows ∧
 (smX en ws (0 : Int)
 (mR
 (cmR ws en
 (mR
 (smX en ws (0 : Int)
 (mR (exR ws en (ByteArray.mk #[(40 : UInt8)]) (mR nx pa er)).nx
 (exR ws en (ByteArray.mk #[(40 : UInt8)]) (mR nx pa er)).pa
 (exR ws en (ByteArray.mk #[(40 : UInt8)]) (mR nx pa er)).er)).snd.nx
 (smX en ws (0 : Int)
 (mR (exR ws en (ByteArray.mk #[(40 : UInt8)]) (mR nx pa er)).nx
 (exR ws en (ByteArray.mk #[(40 : UInt8)]) (mR nx pa er)).pa
 (exR ws en (ByteArray.mk #[(40 : UInt8)]) (mR nx pa er)).er)).snd.pa
 (smX en ws (0 : Int)
 (mR (exR ws en (ByteArray.mk #[(40 : UInt8)]) (mR nx pa er)).nx
 (exR ws en (ByteArray.mk #[(40 : UInt8)]) (mR nx pa er)).pa
 (exR ws en (ByteArray.mk #[(40 : UInt8)]) (mR nx pa er)).er)).snd.er)).nx
 (cmR ws en
 (mR
 (smX en ws (0 : Int)
 (mR (exR ws en (ByteArray.mk #[(40 : UInt8)]) (mR nx pa er)).nx
 (exR ws en (ByteArray.mk #[(40 : UInt8)]) (mR nx pa er)).pa
 (exR ws en (ByteArray.mk #[(40 : UInt8)]) (mR nx pa er)).er)).snd.nx
 (smX en ws (0 : Int)
 (mR (exR ws en (ByteArray.mk #[(40 : UInt8)]) (mR nx pa er)).nx
 (exR ws en (ByteArray.mk #[(40 : UInt8)]) (mR nx pa er)).pa
 (exR ws en (ByteArray.mk #[(40 : UInt8)]) (mR nx pa er)).er)).snd.pa
 (smX en ws (0 : Int)
 (mR (exR ws en (ByteArray.mk #[(40 : UInt8)]) (mR nx pa er)).nx
 (exR ws en (ByteArray.mk #[(40 : UInt8)]) (mR nx pa er)).pa
 (exR ws en (ByteArray.mk #[(40 : UInt8)]) (mR nx pa er)).er)).snd.er)).pa
 (cmR ws en
 (mR
 (smX en ws (0 : Int)
 (mR (exR ws en (ByteArray.mk #[(40 : UInt8)]) (mR nx pa er)).nx
 (exR ws en (ByteArray.mk #[(40 : UInt8)]) (mR nx pa er)).pa
 (exR ws en (ByteArray.mk #[(40 : UInt8)]) (mR nx pa er)).er)).snd.nx
 (smX en ws (0 : Int)
 (mR (exR ws en (ByteArray.mk #[(40 : UInt8)]) (mR nx pa er)).nx
 (exR ws en (ByteArray.mk #[(40 : UInt8)]) (mR nx pa er)).pa
 (exR ws en (ByteArray.mk #[(40 : UInt8)]) (mR nx pa er)).er)).snd.pa
 (smX en ws (0 : Int)
 (mR (exR ws en (ByteArray.mk #[(40 : UInt8)]) (mR nx pa er)).nx
 (exR ws en (ByteArray.mk #[(40 : UInt8)]) (mR nx pa er)).pa
 (exR ws en (ByteArray.mk #[(40 : UInt8)])
 (mR nx pa er)).er)).snd.er)).er)).fst.d.rows =
 (cdC ws en (mR nx pa er)).r.d.rows) (by kernel_rfl) ?_
    intro h
    obtain ⟨a, b, c, d, e, f⟩ := cd_up en (r := mR nx pa er) h
    simp only [etR]
    exact ⟨h, (by decide), a, (lf_lt a).1, (lf_lt a).2, b, c, (lf_lt c).1, (lf_lt c).2, d, (by decide), (by (repeat' (with_reducible apply And.intro)) <;> first | with_reducible rfl | exact True.intro | assumption | (symm; assumption) | rfl)⟩
  · trivial
end Go.Proofs.Ytbhbjhejkamlnaa.Sx.Z
