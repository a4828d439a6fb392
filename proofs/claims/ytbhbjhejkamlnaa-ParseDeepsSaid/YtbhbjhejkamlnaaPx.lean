/-
  parse: a send.
-/
import Derived.Test.YtbhbjhejkamlnaaPw
namespace Go.Proofs.Ytbhbjhejkamlnaa.Sx.Z
open Go.RowKit
noncomputable def sndS : List Dat → Option (Eff × List Seg) := fun ds => match ds with
  | [.d ws, .i nx, .i en, .i pa, .i er] => some ({ val := .one (.agg [.c (.int .i64 (.sym 4)), .c (.raw (.string (nmS ws (snN ws en (mR nx pa er))))), .c (.raw (.string (nmS ws (snT ws en (mR nx pa er))))), .c (.int .i64 (.sym ((snE ws en (mR nx pa er)).1).k)), .c (.int .i64 (.sym ((snE ws en (mR nx pa er)).1).n)), .c (.raw (.string ((snE ws en (mR nx pa er)).1).s)), .c (.osl 90 0 (.lit 0) (.sym ((snE ws en (mR nx pa er)).1).d.len)), .c (.int .i64 (.sym 0)), .c (.int .i64 (.sym 0)), .c (.int .i64 (.sym 0)), .c (.raw (.string ByteArray.empty)), .c .nils, .c (.int .i64 (.sym 0)), .c (.int .i64 (.sym 0)), .c (.raw (.string ByteArray.empty)), .c .nils, .c .nils, .c .nils, .c .nils]), vc := [rdOK ws nx], nw := [(0, .orow 90 (snE ws en (mR nx pa er)).1.d)] }, [.c (.rows 115 ws), .c (.int .i64 (.sym ((snR ws en (mR nx pa er)).nx))), .c (.int .i64 (.sym en)), .c (.int .i64 (.sym ((snR ws en (mR nx pa er)).pa))), .c (.int .i64 (.sym ((snR ws en (mR nx pa er)).er)))])
  | _ => none
noncomputable def sndC : Con := conM 64 [.c (.rows 115), .c (.int .i64), .c (.int .i64), .c (.int .i64), .c (.int .i64)] [] sndS
theorem snd_ok : ConOK Try.prog 87 sndC := by
  refine fn_obM tt_ok mixed Try.func87 rfl (fun _ _ => by kernel_rfl) (A := fun ds => ⟨fun _ => Cons.of [(99, (partC smX 1000001)), (71, expC), (68, namC)], fun _ => none, fun _ => none⟩) (fun _ _ => (cons_cons smX_ok (cons_cons exp_ok (cons_cons nam_ok cons_nil)))) (by kernel_rfl) ?_
  intro ds
  unfold sndS
  split
  · rename_i ws nx en pa er
    refine kmp (q := rdOK ws nx →
 rdOK ws nx ∧
 (0 : Nat) < (ByteArray.mk #[(115 : UInt8), (101 : UInt8), (110 : UInt8), (100 : UInt8)]).size ∧
 rdOK ws (exR ws en (ByteArray.mk #[(115 : UInt8), (101 : UInt8), (110 : UInt8), (100 : UInt8)]) (mR nx pa er)).nx ∧
 rdOK ws (nmR ws en (exR ws en (ByteArray.mk #[(115 : UInt8), (101 : UInt8), (110 : UInt8), (100 : UInt8)]) (mR nx pa er))).nx ∧
 (0 : Nat) < (ByteArray.mk #[(46 : UInt8)]).size ∧
 rdOK ws
 (exR ws en (ByteArray.mk #[(46 : UInt8)])
 (nmR ws en (exR ws en (ByteArray.mk #[(115 : UInt8), (101 : UInt8), (110 : UInt8), (100 : UInt8)]) (mR nx pa er)))).nx ∧
 rdOK ws
 (nmR ws en
 (exR ws en (ByteArray.mk #[(46 : UInt8)])
 (nmR ws en (exR ws en (ByteArray.mk #[(115 : UInt8), (101 : UInt8), (110 : UInt8), (100 : UInt8)]) (mR nx pa er))))).nx ∧
 (0 : Nat) < (ByteArray.mk #[(40 : UInt8)]).size ∧
 rdOK ws
 (exR ws en (ByteArray.mk #[(40 : UInt8)])
 (nmR ws en
 (exR ws en (ByteArray.mk #[(46 : UInt8)])
 (nmR ws en (exR ws en (ByteArray.mk #[(115 : UInt8), (101 : UInt8), (110 : UInt8), (100 : UInt8)]) (mR nx pa er)))))).nx ∧
 dpOK ws
 (exR ws en (ByteArray.mk #[(40 : UInt8)])
 (nmR ws en
 (exR ws en (ByteArray.mk #[(46 : UInt8)])
 (nmR ws en (exR ws en (ByteArray.mk #[(115 : UInt8), (101 : UInt8), (110 : UInt8), (100 : UInt8)]) (mR nx pa er))))))
 (0 : Int) ∧
 left ws
 (exR ws en (ByteArray.mk #[(40 : UInt8)])
 (nmR ws en
 (exR ws en (ByteArray.mk #[(46 : UInt8)])
 (nmR ws en (exR ws en (ByteArray.mk #[(115 : UInt8), (101 : UInt8), (110 : UInt8), (100 : UInt8)]) (mR nx pa er)))))) <
 (1000001 : Nat) ∧
 rdOK ws
 (smX en ws (0 : Int)
 (exR ws en (ByteArray.mk #[(40 : UInt8)])
 (nmR ws en
 (exR ws en (ByteArray.mk #[(46 : UInt8)])
 (nmR ws en
 (exR ws en (ByteArray.mk #[(115 : UInt8), (101 : UInt8), (110 : UInt8), (100 : UInt8)]) (mR nx pa er))))))).snd.nx ∧
 (0 : Nat) < (ByteArray.mk #[(41 : UInt8)]).size ∧
 rdOK ws
 (exR ws en (ByteArray.mk #[(41 : UInt8)])
 (smX en ws (0 : Int)
 (exR ws en (ByteArray.mk #[(40 : UInt8)])
 (nmR ws en
 (exR ws en (ByteArray.mk #[(46 : UInt8)])
 (nmR ws en
 (exR ws en (ByteArray.mk #[(115 : UInt8), (101 : UInt8), (110 : UInt8), (100 : UInt8)])
 (mR nx pa er))))))).snd).nx ∧
 (0 : Nat) < (ByteArray.mk #[(59 : UInt8)]).size ∧
 (4 : Int) = (4 : Int) ∧
 Value.string (nmS ws (exR ws en (ByteArray.mk #[(115 : UInt8), (101 : UInt8), (110 : UInt8), (100 : UInt8)]) (mR nx pa er))) =
 Value.string (nmS ws (snN ws en (mR nx pa er))) ∧
 Value.string
 (nmS ws
 (exR ws en (ByteArray.mk #[(46 : UInt8)])
 (nmR ws en
 (exR ws en (ByteArray.mk #[(115 : UInt8), (101 : UInt8), (110 : UInt8), (100 : UInt8)]) (mR nx pa er))))) =
 Value.string (nmS ws (snT ws en (mR nx pa er))) ∧
 (smX en ws (0 : Int)
 (exR ws en (ByteArray.mk #[(40 : UInt8)])
 (nmR ws en
 (exR ws en (ByteArray.mk #[(46 : UInt8)])
 (nmR ws en
 (exR ws en (ByteArray.mk #[(115 : UInt8), (101 : UInt8), (110 : UInt8), (100 : UInt8)])
 (mR nx pa er))))))).fst.k =
 (snE ws en (mR nx pa er)).fst.k ∧
 (smX en ws (0 : Int)
 (exR ws en (ByteArray.mk #[(40 : UInt8)])
 (nmR ws en
 (exR ws en (ByteArray.mk #[(46 : UInt8)])
 (nmR ws en
 (exR ws en (ByteArray.mk #[(115 : UInt8), (101 : UInt8), (110 : UInt8), (100 : UInt8)])
 (mR nx pa er))))))).fst.n =
 (snE ws en (mR nx pa er)).fst.n ∧
 Value.string
 (smX en ws (0 : Int)
 (exR ws en (ByteArray.mk #[(40 : UInt8)])
 (nmR ws en
 (exR ws en (ByteArray.mk #[(46 : UInt8)])
 (nmR ws en
 (exR ws en (ByteArray.mk #[(115 : UInt8), (101 : UInt8), (110 : UInt8), (100 : UInt8)])
 (mR nx pa er))))))).fst.s =
 Value.string (snE ws en (mR nx pa er)).fst.s ∧
 (smX en ws (0 : Int)
 (exR ws en (ByteArray.mk #[(40 : UInt8)])
 (nmR ws en
 (exR ws en (ByteArray.mk #[(46 : UInt8)])
 (nmR ws en
 (exR ws en (ByteArray.mk #[(115 : UInt8), (101 : UInt8), (110 : UInt8), (100 : UInt8)])
 (mR nx pa er))))))).fst.d.len =
 (snE ws en (mR nx pa er)).fst.d.len ∧
 (0 : Int) = (0 : Int) ∧
 (0 : Int) = (0 : Int) ∧
 (0 : Int) = (0 : Int) ∧
 Value.string ByteArray.empty = Value.string ByteArray.empty ∧
 (0 : Int) = (0 : Int) ∧
 (0 : Int) = (0 : Int) ∧
 Value.string ByteArray.empty = Value.string ByteArray.empty ∧
 ws.rows = ws.rows ∧
 (exR ws en (ByteArray.mk #[(59 : UInt8)])
 (exR ws en (ByteArray.mk #[(41 : UInt8)])
 (smX en ws (0 : Int)
 (exR ws en (ByteArray.mk #[(40 : UInt8)])
 (nmR ws en
 (exR ws en (ByteArray.mk #[(46 : UInt8)])
 (nmR ws en
 (exR ws en
 (ByteArray.mk #[(115 : UInt8), (101 : UInt8), (110 : UInt8), (100 : UInt8)])
 (mR nx pa er))))))).snd)).nx =
 (snR ws en (mR nx pa er)).nx ∧
 en = en ∧
 (exR ws en (ByteArray.mk #[(59 : UInt8)])
 (exR ws en (ByteArray.mk #[(41 : UInt8)])
 (smX en ws (0 : Int)
 (exR ws en (ByteArray.mk #[(40 : UInt8)])
 (nmR ws en
 (exR ws en (ByteArray.mk #[(46 : UInt8)])
 (nmR ws en
 (exR ws en
 {
 data :=
 #[(115 : UInt8), (101 : UInt8), (110 : UInt8), (100 : UInt8)] }
 (mR nx pa er))))))).snd)).pa =
 (snR ws en (mR nx pa er)).pa ∧
 (exR ws en (ByteArray.mk #[(59 : UInt8)])
 (exR ws en (ByteArray.mk #[(41 : UInt8)])
 (smX en ws (0 : Int)
 (exR ws en (ByteArray.mk #[(40 : UInt8)])
 (nmR ws en
 (exR ws en (ByteArray.mk #[(46 : UInt8)])
 (nmR ws en
 (exR ws en
 {
 data :=
 #[(115 : UInt8), (101 : UInt8), (110 : UInt8), (100 : UInt8)] }
 (mR nx pa er))))))).snd)).er =
 (snR ws en (mR nx pa er)).er ∧
 (smX en ws (0 : Int)
 (exR ws en (ByteArray.mk #[(40 : UInt8)])
 (nmR ws en
 (exR ws en (ByteArray.mk #[(46 : UInt8)])
 (nmR ws en
 (exR ws en
 {
 data :=
 #[(115 : UInt8), (101 : UInt8), (110 : UInt8), (100 : UInt8)] }
 (mR nx pa er))))))).fst.d.rows =
 (snE ws en (mR nx pa er)).fst.d.rows) (by kernel_rfl) ?_
    intro h
    have a1 := (ex_up en (t := kwS) (r := mR nx pa er) h (by decide)).1
    have a2 := (nm_up en a1).1
    have a3 := (ex_up en (t := doB) a2 (by decide)).1
    have a4 := (nm_up en a3).1
    have a5 := (ex_up en (t := opB) a4 (by decide)).1
    have a6 := ((smX_up en ws 0).up _ a5).2.1
    have a7 := (ex_up en (t := clB) a6 (by decide)).1
    (repeat' (with_reducible apply And.intro)) <;> first | with_reducible rfl | exact True.intro | assumption | exact (lf_lt (by assumption)).1 | exact (lf_lt (by assumption)).2 | decide | rfl
  · trivial
end Go.Proofs.Ytbhbjhejkamlnaa.Sx.Z
