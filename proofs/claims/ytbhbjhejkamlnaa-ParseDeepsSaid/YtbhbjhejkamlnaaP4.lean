/-
  parse: a system.
-/
import Derived.Test.YtbhbjhejkamlnaaP3
namespace Go.Proofs.Ytbhbjhejkamlnaa.Sx.Z
open Go.RowKit
def csF (ws : D) (en : Int) (r : Rd) : List D × Rd := ((chZ ws en (acR ws kwC r)).row, chR ws en (acR ws kwC r))
def usF (ws : D) (en : Int) (r : Rd) : List D × Rd := ((ruZ ws en (acR ws kwU r)).row, ruR ws en (acR ws kwU r))
def psF (ws : D) (en : Int) (r : Rd) : List D × Rd := ((poZ ws en (acR ws kwP r)).row, poR ws en (acR ws kwP r))
def syC (ws : D) (en : Int) (r : Rd) : D × Rd := seqA (acG kwC ws) (csF ws en) ws (.l []) r
def syU (ws : D) (en : Int) (r : Rd) : D × Rd := seqA (acG kwU ws) (usF ws en) ws (.l []) (syC ws en r).2
def syP (ws : D) (en : Int) (r : Rd) : D × Rd := seqA (acG kwP ws) (psF ws en) ws (.l []) (syU ws en r).2
def syR (ws : D) (en : Int) (r : Rd) : Rd := fiR ws en (syP ws en r).2
theorem cs_sq {ws : D} (en : Int) : SqOK ws (acG kwC ws) (csF ws en) := ⟨fun r h hg => by
  have a := ac_up (t := kwC) h (by decide)
  have b := (ch_up en a.1).2.2.2
  exact ⟨b.1, Int.lt_of_lt_of_le (ac_lt2 hg) b.2⟩⟩
theorem us_sq {ws : D} (en : Int) : SqOK ws (acG kwU ws) (usF ws en) := ⟨fun r h hg => by
  have a := ac_up (t := kwU) h (by decide)
  have b := (ru_up en a.1).2.2.2
  exact ⟨b.1, Int.lt_of_lt_of_le (ac_lt2 hg) b.2⟩⟩
theorem ps_sq {ws : D} (en : Int) : SqOK ws (acG kwP ws) (psF ws en) := ⟨fun r h hg => by
  have a := ac_up (t := kwP) h (by decide)
  have b := (po_up en a.1).2.2.2.2
  exact ⟨b.1, Int.lt_of_lt_of_le (ac_lt2 hg) b.2⟩⟩
theorem sy_up {ws : D} (en : Int) {r : Rd} (h : rdOK ws r.nx) : rdOK ws (syC ws en r).2.nx ∧ rdOK ws (syU ws en r).2.nx ∧ rdOK ws (syP ws en r).2.nx := by
  have a := seq_up (cs_sq en) (.l []) h
  have b := seq_up (us_sq en) (.l []) a.1
  exact ⟨a.1, b.1, (seq_up (ps_sq en) (.l []) b.1).1⟩
noncomputable def sysS : List Dat → Option (Eff × List Seg) := fun ds => match ds with
  | [.d ws, .i nx, .i en, .i pa, .i er] => some ({ val := .one (.agg [.c (.osl 97 0 (.lit 0) (.sym ((syC ws en (mR nx pa er)).1.len))), .c (.osl 102 1 (.lit 0) (.sym ((syU ws en (mR nx pa er)).1.len))), .c (.osl 87 2 (.lit 0) (.sym ((syP ws en (mR nx pa er)).1.len)))]), vc := [rdOK ws nx], nw := [(0, .orow 97 ((syC ws en (mR nx pa er)).1)), (1, .orow 102 ((syU ws en (mR nx pa er)).1)), (2, .orow 87 ((syP ws en (mR nx pa er)).1))] }, [.c (.rows 115 ws), .c (.int .i64 (.sym ((syR ws en (mR nx pa er)).nx))), .c (.int .i64 (.sym en)), .c (.int .i64 (.sym ((syR ws en (mR nx pa er)).pa))), .c (.int .i64 (.sym ((syR ws en (mR nx pa er)).er)))])
  | _ => none
noncomputable def sysC : Con := conM 64 [.c (.rows 115), .c (.int .i64), .c (.int .i64), .c (.int .i64), .c (.int .i64)] [] sysS
theorem sys_ok : ConOK Try.prog 14 sysC := by
  refine fn_obM tt_ok mixed Try.func14 rfl (fun _ _ => by kernel_rfl) (A := fun ds => ⟨fun _ => Cons.of [(38, chnC), (39, rulC), (40, proC), (37, accC), (41, finC)], fun k => match k, ds with | 2, [.d ws, .i nx, .i en, .i pa, .i er] => some { ι := D × Rd, pre := fun _ q => rdOK ws q.2.nx ∧ (seqA (acG kwC ws) (csF ws en) ws q.1 q.2 = (syC ws en (mR nx pa er))) ∧ q.1.len + left ws q.2 ≤ 1000001, μ := fun q => left ws q.2, st := fun s q => famN s [] [0, 2, 3] [(0, .own 64 ([.c (.rows 115 ws), .c (.int .i64 (.sym ((q.2).nx))), .c (.int .i64 (.sym en)), .c (.int .i64 (.sym ((q.2).pa))), .c (.int .i64 (.sym ((q.2).er)))])), (idOf s 3, .own 26 ([.c (.osl 97 s.nx (.lit 0) (.sym (q.1.len))), .c .nils, .c .nils])), (s.nx, .orow 97 (q.1))] [2] } | 4, [.d ws, .i nx, .i en, .i pa, .i er] => some { ι := D × Rd, pre := fun _ q => rdOK ws q.2.nx ∧ (seqA (acG kwU ws) (usF ws en) ws q.1 q.2 = (syU ws en (mR nx pa er))) ∧ q.1.len + left ws q.2 ≤ 1000001, μ := fun q => left ws q.2, st := fun s q => famN s [] [0, 2, 3] [(0, .own 64 ([.c (.rows 115 ws), .c (.int .i64 (.sym ((q.2).nx))), .c (.int .i64 (.sym en)), .c (.int .i64 (.sym ((q.2).pa))), .c (.int .i64 (.sym ((q.2).er)))])), (idOf s 3, .own 26 ([.c (.osl 97 (cellIdP s 3 0) (.lit 0) (.sym ((syC ws en (mR nx pa er)).1.len))), .c (.osl 102 s.nx (.lit 0) (.sym (q.1.len))), .c .nils])), (cellIdP s 3 0, .orow 97 ((syC ws en (mR nx pa er)).1)), (s.nx, .orow 102 (q.1))] [2] } | 6, [.d ws, .i nx, .i en, .i pa, .i er] => some { ι := D × Rd, pre := fun _ q => rdOK ws q.2.nx ∧ (seqA (acG kwP ws) (psF ws en) ws q.1 q.2 = (syP ws en (mR nx pa er))) ∧ q.1.len + left ws q.2 ≤ 1000001, μ := fun q => left ws q.2, st := fun s q => famN s [] [0, 2, 3] [(0, .own 64 ([.c (.rows 115 ws), .c (.int .i64 (.sym ((q.2).nx))), .c (.int .i64 (.sym en)), .c (.int .i64 (.sym ((q.2).pa))), .c (.int .i64 (.sym ((q.2).er)))])), (idOf s 3, .own 26 ([.c (.osl 97 (cellIdP s 3 0) (.lit 0) (.sym ((syC ws en (mR nx pa er)).1.len))), .c (.osl 102 (cellIdP s 3 1) (.lit 0) (.sym ((syU ws en (mR nx pa er)).1.len))), .c (.osl 87 s.nx (.lit 0) (.sym (q.1.len)))])), (cellIdP s 3 0, .orow 97 ((syC ws en (mR nx pa er)).1)), (cellIdP s 3 1, .orow 102 ((syU ws en (mR nx pa er)).1)), (s.nx, .orow 87 (q.1))] [2] } | _, _ => none, fun _ => none⟩) (fun _ _ => (cons_cons chn_ok (cons_cons rul_ok (cons_cons pro_ok (cons_cons acc_ok (cons_cons fin_ok cons_nil)))))) (by kernel_rfl) ?_
  intro ds
  unfold sysS
  split
  · rename_i ws nx en pa er
    refine kmp (q := rdOK ws nx →
 (∃ (i : D × Rd),
 (rdOK ws i.snd.nx ∧ seqA (acG kwC ws) (csF ws en) ws i.fst i.snd = syC ws en (mR nx pa er) ∧ i.fst.len + left ws i.snd ≤ (1000001 : Nat)) ∧
 ws.rows = ws.rows ∧ nx = i.snd.nx ∧ en = en ∧ pa = i.snd.pa ∧ er = i.snd.er ∧ i.fst.len = (0 : Nat) ∧ i.fst.rows = []) ∧
 ∀ (i : D × Rd),
 rdOK ws i.snd.nx ∧ seqA (acG kwC ws) (csF ws en) ws i.fst i.snd = syC ws en (mR nx pa er) ∧ i.fst.len + left ws i.snd ≤ (1000001 : Nat) →
 rdOK ws i.snd.nx ∧
 (0 : Nat) < kwC.size ∧
 (acB ws i.snd.nx kwC = true →
 rdOK ws (acR ws kwC i.snd).nx ∧
 (0 : Nat) + (chZ ws en (acR ws kwC i.snd)).tg.len ≤
 (chZ ws en (acR ws kwC i.snd)).tg.len ∧
 i.fst.len = i.fst.len ∧
 (i.fst.len +
 ((D.l
 [[D.s (chZ ws en (acR ws kwC i.snd)).nm,
 D.i (chZ ws en (acR ws kwC i.snd)).k,
 D.i (chZ ws en (acR ws kwC i.snd)).n,
 D.s (chZ ws en (acR ws kwC i.snd)).fr,
 D.s (chZ ws en (acR ws kwC i.snd)).to,
 (chZ ws en (acR ws kwC i.snd)).tg.sub (0 : Nat)
 ((0 : Nat) +
 (chZ ws en (acR ws kwC i.snd)).tg.len)]]).sub
 (0 : Nat) ((0 : Nat) + (1 : Nat))).len) *
 (88 : Nat) ≤
 (140737488355328 : Nat) ∧
 (0 : Nat) + (1 : Nat) ≤
 (D.l
 [[D.s (chZ ws en (acR ws kwC i.snd)).nm,
 D.i (chZ ws en (acR ws kwC i.snd)).k,
 D.i (chZ ws en (acR ws kwC i.snd)).n,
 D.s (chZ ws en (acR ws kwC i.snd)).fr,
 D.s (chZ ws en (acR ws kwC i.snd)).to,
 (chZ ws en (acR ws kwC i.snd)).tg.sub (0 : Nat)
 ((0 : Nat) +
 (chZ ws en (acR ws kwC i.snd)).tg.len)]]).len ∧
 ∃ (j : D × Rd),
 (rdOK ws j.snd.nx ∧
 seqA (acG kwC ws) (csF ws en) ws j.fst j.snd = syC ws en (mR nx pa er) ∧ j.fst.len + left ws j.snd ≤ (1000001 : Nat)) ∧
 left ws j.snd < left ws i.snd ∧
 ws.rows = ws.rows ∧
 (chR ws en (acR ws kwC i.snd)).nx = j.snd.nx ∧
 en = en ∧
 (chR ws en (acR ws kwC i.snd)).pa = j.snd.pa ∧
 (chR ws en (acR ws kwC i.snd)).er = j.snd.er ∧
 i.fst.len +
 ((D.l
 [[D.s
 (chZ ws en
 (acR ws kwC i.snd)).nm,
 D.i
 (chZ ws en
 (acR ws kwC i.snd)).k,
 D.i
 (chZ ws en
 (acR ws kwC i.snd)).n,
 D.s
 (chZ ws en
 (acR ws kwC i.snd)).fr,
 D.s
 (chZ ws en
 (acR ws kwC i.snd)).to,
 (chZ ws en
 (acR ws kwC
 i.snd)).tg.sub
 (0 : Nat)
 ((0 : Nat) +
 (chZ ws en
 (acR ws kwC
 i.snd)).tg.len)]]).sub
 (0 : Nat) ((0 : Nat) + (1 : Nat))).len =
 j.fst.len ∧
 i.fst.rows ++
 List.drop (0 : Nat)
 (List.take ((0 : Nat) + (1 : Nat))
 [[D.s (chZ ws en (acR ws kwC i.snd)).nm,
 D.i
 (chZ ws en (acR ws kwC i.snd)).k,
 D.i
 (chZ ws en (acR ws kwC i.snd)).n,
 D.s
 (chZ ws en (acR ws kwC i.snd)).fr,
 D.s
 (chZ ws en (acR ws kwC i.snd)).to,
 (chZ ws en
 (acR ws kwC i.snd)).tg.sub
 (0 : Nat)
 ((0 : Nat) +
 (chZ ws en
 (acR ws kwC
 i.snd)).tg.len)]]) =
 j.fst.rows) ∧
 (acB ws i.snd.nx kwC = false →
 (∃ (i_1 : D × Rd),
 (rdOK ws i_1.snd.nx ∧
 seqA (acG kwU ws) (usF ws en) ws i_1.fst i_1.snd = syU ws en (mR nx pa er) ∧ i_1.fst.len + left ws i_1.snd ≤ (1000001 : Nat)) ∧
 ws.rows = ws.rows ∧
 (acR ws kwC i.snd).nx = i_1.snd.nx ∧
 en = en ∧
 (acR ws kwC i.snd).pa = i_1.snd.pa ∧
 (acR ws kwC i.snd).er = i_1.snd.er ∧
 i.fst.len = (syC ws en (mR nx pa er)).fst.len ∧
 i_1.fst.len = (0 : Nat) ∧ i.fst.rows = (syC ws en (mR nx pa er)).fst.rows ∧ i_1.fst.rows = []) ∧
 ∀ (i : D × Rd),
 rdOK ws i.snd.nx ∧ seqA (acG kwU ws) (usF ws en) ws i.fst i.snd = syU ws en (mR nx pa er) ∧ i.fst.len + left ws i.snd ≤ (1000001 : Nat) →
 rdOK ws i.snd.nx ∧
 (0 : Nat) < kwU.size ∧
 (acB ws i.snd.nx kwU = true →
 rdOK ws (acR ws kwU i.snd).nx ∧
 (0 : Nat) + (ruZ ws en (acR ws kwU i.snd)).mv.len ≤
 (ruZ ws en (acR ws kwU i.snd)).mv.len ∧
 i.fst.len = i.fst.len ∧
 (i.fst.len +
 ((D.l
 [[D.s
 (ruZ ws en
 (acR ws kwU i.snd)).ch,
 (ruZ ws en
 (acR ws kwU i.snd)).mv.sub
 (0 : Nat)
 ((0 : Nat) +
 (ruZ ws en
 (acR ws kwU
 i.snd)).mv.len)]]).sub
 (0 : Nat) ((0 : Nat) + (1 : Nat))).len) *
 (40 : Nat) ≤
 (140737488355328 : Nat) ∧
 (0 : Nat) + (1 : Nat) ≤
 (D.l
 [[D.s (ruZ ws en (acR ws kwU i.snd)).ch,
 (ruZ ws en (acR ws kwU i.snd)).mv.sub
 (0 : Nat)
 ((0 : Nat) +
 (ruZ ws en
 (acR ws kwU
 i.snd)).mv.len)]]).len ∧
 ∃ (j : D × Rd),
 (rdOK ws j.snd.nx ∧
 seqA (acG kwU ws) (usF ws en) ws j.fst j.snd = syU ws en (mR nx pa er) ∧
 j.fst.len + left ws j.snd ≤ (1000001 : Nat)) ∧
 left ws j.snd < left ws i.snd ∧
 ws.rows = ws.rows ∧
 (ruR ws en (acR ws kwU i.snd)).nx =
 j.snd.nx ∧
 en = en ∧
 (ruR ws en (acR ws kwU i.snd)).pa =
 j.snd.pa ∧
 (ruR ws en (acR ws kwU i.snd)).er =
 j.snd.er ∧
 (syC ws en (mR nx pa er)).fst.len = (syC ws en (mR nx pa er)).fst.len ∧
 i.fst.len +
 ((D.l
 [[D.s
 (ruZ ws en
 (acR ws
 kwU
 i.snd)).ch,
 (ruZ ws en
 (acR ws
 kwU
 i.snd)).mv.sub
 (0 : Nat)
 ((0 : Nat) +
 (ruZ ws en
 (acR ws
 kwU
 i.snd)).mv.len)]]).sub
 (0 : Nat) ((0 : Nat) + (1 : Nat))).len =
 j.fst.len ∧
 (syC ws en (mR nx pa er)).fst.rows = (syC ws en (mR nx pa er)).fst.rows ∧
 i.fst.rows ++
 List.drop (0 : Nat)
 (List.take ((0 : Nat) + (1 : Nat))
 [[D.s
 (ruZ ws en
 (acR ws
 kwU
 i.snd)).ch,
 (ruZ ws en
 (acR ws
 kwU
 i.snd)).mv.sub
 (0 : Nat)
 ((0 : Nat) +
 (ruZ ws en
 (acR ws
 kwU
 i.snd)).mv.len)]]) =
 j.fst.rows) ∧
 (acB ws i.snd.nx kwU = false →
 (∃ (i_1 : D × Rd),
 (rdOK ws i_1.snd.nx ∧
 seqA (acG kwP ws) (psF ws en) ws i_1.fst i_1.snd = syP ws en (mR nx pa er) ∧
 i_1.fst.len + left ws i_1.snd ≤ (1000001 : Nat)) ∧
 ws.rows = ws.rows ∧
 (acR ws kwU i.snd).nx = i_1.snd.nx ∧
 en = en ∧
 (acR ws kwU i.snd).pa = i_1.snd.pa ∧
 (acR ws kwU i.snd).er = i_1.snd.er ∧
 (syC ws en (mR nx pa er)).fst.len = (syC ws en (mR nx pa er)).fst.len ∧
 i.fst.len = (syU ws en (mR nx pa er)).fst.len ∧
 i_1.fst.len = (0 : Nat) ∧
 (syC ws en (mR nx pa er)).fst.rows = (syC ws en (mR nx pa er)).fst.rows ∧
 i.fst.rows = (syU ws en (mR nx pa er)).fst.rows ∧ i_1.fst.rows = []) ∧
 ∀ (i : D × Rd),
 rdOK ws i.snd.nx ∧
 seqA (acG kwP ws) (psF ws en) ws i.fst i.snd = syP ws en (mR nx pa er) ∧ i.fst.len + left ws i.snd ≤ (1000001 : Nat) →
 rdOK ws i.snd.nx ∧
 (0 : Nat) < kwP.size ∧
 (acB ws i.snd.nx kwP = true →
 rdOK ws (acR ws kwP i.snd).nx ∧
 (0 : Nat) +
 (poZ ws en (acR ws kwP i.snd)).vs.len ≤
 (poZ ws en (acR ws kwP i.snd)).vs.len ∧
 (0 : Nat) +
 (poZ ws en
 (acR ws kwP i.snd)).b.len ≤
 (poZ ws en (acR ws kwP i.snd)).b.len ∧
 i.fst.len = i.fst.len ∧
 (i.fst.len +
 ((D.l
 [[D.s
 (poZ ws en
 (acR ws kwP
 i.snd)).nm,
 (poZ ws en
 (acR ws kwP
 i.snd)).vs.sub
 (0 : Nat)
 ((0 : Nat) +
 (poZ ws en
 (acR ws
 kwP
 i.snd)).vs.len),
 (poZ ws en
 (acR ws kwP
 i.snd)).b.sub
 (0 : Nat)
 ((0 : Nat) +
 (poZ ws en
 (acR ws
 kwP
 i.snd)).b.len)]]).sub
 (0 : Nat) ((0 : Nat) + (1 : Nat))).len) *
 (64 : Nat) ≤
 (140737488355328 : Nat) ∧
 (0 : Nat) + (1 : Nat) ≤
 (D.l
 [[D.s
 (poZ ws en
 (acR ws kwP
 i.snd)).nm,
 (poZ ws en
 (acR ws kwP
 i.snd)).vs.sub
 (0 : Nat)
 ((0 : Nat) +
 (poZ ws en
 (acR ws kwP
 i.snd)).vs.len),
 (poZ ws en
 (acR ws kwP
 i.snd)).b.sub
 (0 : Nat)
 ((0 : Nat) +
 (poZ ws en
 (acR ws kwP
 i.snd)).b.len)]]).len ∧
 ∃ (j : D × Rd),
 (rdOK ws j.snd.nx ∧
 seqA (acG kwP ws) (psF ws en) ws j.fst j.snd = syP ws en (mR nx pa er) ∧
 j.fst.len + left ws j.snd ≤ (1000001 : Nat)) ∧
 left ws j.snd < left ws i.snd ∧
 ws.rows = ws.rows ∧
 (poR ws en
 (acR ws kwP
 i.snd)).nx =
 j.snd.nx ∧
 en = en ∧
 (poR ws en
 (acR ws kwP
 i.snd)).pa =
 j.snd.pa ∧
 (poR ws en
 (acR ws kwP
 i.snd)).er =
 j.snd.er ∧
 (syC ws en (mR nx pa er)).fst.len = (syC ws en (mR nx pa er)).fst.len ∧
 (syU ws en (mR nx pa er)).fst.len = (syU ws en (mR nx pa er)).fst.len ∧
 i.fst.len +
 ((D.l
 [[D.s
 (poZ ws en
 (acR ws
 kwP
 i.snd)).nm,
 (poZ ws en
 (acR ws
 kwP
 i.snd)).vs.sub
 (0 : Nat)
 ((0 : Nat) +
 (poZ ws en
 (acR ws
 kwP
 i.snd)).vs.len),
 (poZ ws en
 (acR ws
 kwP
 i.snd)).b.sub
 (0 : Nat)
 ((0 : Nat) +
 (poZ ws en
 (acR ws
 kwP
 i.snd)).b.len)]]).sub
 (0 : Nat) ((0 : Nat) + (1 : Nat))).len =
 j.fst.len ∧
 (syC ws en (mR nx pa er)).fst.rows = (syC ws en (mR nx pa er)).fst.rows ∧
 (syU ws en (mR nx pa er)).fst.rows = (syU ws en (mR nx pa er)).fst.rows ∧
 i.fst.rows ++
 List.drop (0 : Nat)
 (List.take ((0 : Nat) + (1 : Nat))
 [[D.s
 (poZ ws en
 (acR ws
 kwP
 i.snd)).nm,
 (poZ ws en
 (acR ws
 kwP
 i.snd)).vs.sub
 (0 : Nat)
 ((0 : Nat) +
 (poZ ws en
 (acR ws
 kwP
 i.snd)).vs.len),
 (poZ ws en
 (acR ws
 kwP
 i.snd)).b.sub
 (0 : Nat)
 ((0 : Nat) +
 (poZ ws en
 (acR ws
 kwP
 i.snd)).b.len)]]) =
 j.fst.rows) ∧
 (acB ws i.snd.nx kwP = false →
 rdOK ws (acR ws kwP i.snd).nx ∧
 (syC ws en (mR nx pa er)).fst.len = (syC ws en (mR nx pa er)).fst.len ∧
 (syU ws en (mR nx pa er)).fst.len = (syU ws en (mR nx pa er)).fst.len ∧
 i.fst.len = (syP ws en (mR nx pa er)).fst.len ∧
 ws.rows = ws.rows ∧
 (fiR ws en (acR ws kwP i.snd)).nx =
 (syR ws en (mR nx pa er)).nx ∧
 en = en ∧
 (fiR ws en
 (acR ws kwP i.snd)).pa =
 (syR ws en (mR nx pa er)).pa ∧
 (fiR ws en
 (acR ws kwP
 i.snd)).er =
 (syR ws en (mR nx pa er)).er ∧
 (syC ws en (mR nx pa er)).fst.rows = (syC ws en (mR nx pa er)).fst.rows ∧
 (syU ws en (mR nx pa er)).fst.rows = (syU ws en (mR nx pa er)).fst.rows ∧
 i.fst.rows = (syP ws en (mR nx pa er)).fst.rows)))) (by kernel_rfl) ?_
    intro h
    obtain ⟨a, b, c⟩ := sy_up en (r := mR nx pa er) h
    refine ⟨⟨(.l [], (mR nx pa er)), ⟨h, rfl, (by show 0 + left ws (mR nx pa er) ≤ 1000001; have := (lf_lt (r := (mR nx pa er)) h).2; omega)⟩, ?_⟩, ?_⟩
    · (repeat' (with_reducible apply And.intro)) <;> first | with_reducible rfl | exact True.intro | with_reducible assumption | decide | assumption | rfl
    rintro q ⟨h1, h2, h3⟩
    refine ⟨h1, by decide, fun hc => ?_, fun hc => ?_⟩
    · have hg : acG kwC ws q.2 = true := hc
      obtain ⟨u1, u2⟩ := (cs_sq en).up q.2 h1 hg
      have u3 := lt_left u1 h1 u2
      have hs := seq_step (cs_sq en) (d := q.1) h1 hg
      have hz : (q.1.len + 1) * 88 ≤ 140737488355328 := by omega
      have hl : (D.l (q.1.rows ++ [(csF ws en q.2).1])).len + left ws (csF ws en q.2).2 ≤ 1000001 := by rw [ap_len]; omega
      have m1 := (ac_up (t := kwC) h1 (by decide)).1
      refine ⟨m1, Nat.le_of_eq (Nat.zero_add _), rfl, hz, Nat.le_refl 1, (.l (q.1.rows ++ [(csF ws en q.2).1]), (csF ws en q.2).2), ⟨u1, hs.trans h2, hl⟩, u3, ?_⟩
      simp only [subAll]
      (repeat' (with_reducible apply And.intro)) <;> first | with_reducible rfl | exact True.intro | exact (ap_len _ _).symm | rfl
    have hg : acG kwC ws q.2 = false := hc
    have h2 : (q.1, q.2) = (syC ws en (mR nx pa er)) := (seq_end hg).symm.trans h2
    rw [acR_no (r := q.2) hc]
    refine ⟨⟨(.l [], (syC ws en (mR nx pa er)).2), ⟨a, rfl, (by show 0 + left ws (syC ws en (mR nx pa er)).2 ≤ 1000001; have := (lf_lt (r := (syC ws en (mR nx pa er)).2) a).2; omega)⟩, ?_⟩, ?_⟩
    · simp only [← h2]
      (repeat' (with_reducible apply And.intro)) <;> first | with_reducible rfl | exact True.intro | with_reducible assumption | decide | assumption | rfl
    rintro q ⟨h1, h2, h3⟩
    refine ⟨h1, by decide, fun hc => ?_, fun hc => ?_⟩
    · have hg : acG kwU ws q.2 = true := hc
      obtain ⟨u1, u2⟩ := (us_sq en).up q.2 h1 hg
      have u3 := lt_left u1 h1 u2
      have hs := seq_step (us_sq en) (d := q.1) h1 hg
      have hz : (q.1.len + 1) * 40 ≤ 140737488355328 := by omega
      have hl : (D.l (q.1.rows ++ [(usF ws en q.2).1])).len + left ws (usF ws en q.2).2 ≤ 1000001 := by rw [ap_len]; omega
      have m1 := (ac_up (t := kwU) h1 (by decide)).1
      refine ⟨m1, Nat.le_of_eq (Nat.zero_add _), rfl, hz, Nat.le_refl 1, (.l (q.1.rows ++ [(usF ws en q.2).1]), (usF ws en q.2).2), ⟨u1, hs.trans h2, hl⟩, u3, ?_⟩
      simp only [subAll]
      (repeat' (with_reducible apply And.intro)) <;> first | with_reducible rfl | exact True.intro | exact (ap_len _ _).symm | rfl
    have hg : acG kwU ws q.2 = false := hc
    have h2 : (q.1, q.2) = (syU ws en (mR nx pa er)) := (seq_end hg).symm.trans h2
    rw [acR_no (r := q.2) hc]
    refine ⟨⟨(.l [], (syU ws en (mR nx pa er)).2), ⟨b, rfl, (by show 0 + left ws (syU ws en (mR nx pa er)).2 ≤ 1000001; have := (lf_lt (r := (syU ws en (mR nx pa er)).2) b).2; omega)⟩, ?_⟩, ?_⟩
    · simp only [← h2]
      (repeat' (with_reducible apply And.intro)) <;> first | with_reducible rfl | exact True.intro | with_reducible assumption | decide | assumption | rfl
    rintro q ⟨h1, h2, h3⟩
    refine ⟨h1, by decide, fun hc => ?_, fun hc => ?_⟩
    · have hg : acG kwP ws q.2 = true := hc
      obtain ⟨u1, u2⟩ := (ps_sq en).up q.2 h1 hg
      have u3 := lt_left u1 h1 u2
      have hs := seq_step (ps_sq en) (d := q.1) h1 hg
      have hz : (q.1.len + 1) * 64 ≤ 140737488355328 := by omega
      have hl : (D.l (q.1.rows ++ [(psF ws en q.2).1])).len + left ws (psF ws en q.2).2 ≤ 1000001 := by rw [ap_len]; omega
      have m1 := (ac_up (t := kwP) h1 (by decide)).1
      refine ⟨m1, Nat.le_of_eq (Nat.zero_add _), Nat.le_of_eq (Nat.zero_add _), rfl, hz, Nat.le_refl 1, (.l (q.1.rows ++ [(psF ws en q.2).1]), (psF ws en q.2).2), ⟨u1, hs.trans h2, hl⟩, u3, ?_⟩
      simp only [subAll]
      (repeat' (with_reducible apply And.intro)) <;> first | with_reducible rfl | exact True.intro | exact (ap_len _ _).symm | rfl
    have hg : acG kwP ws q.2 = false := hc
    have h2 : (q.1, q.2) = (syP ws en (mR nx pa er)) := (seq_end hg).symm.trans h2
    rw [acR_no (r := q.2) hc]
    simp only [syR, ← h2]
    (repeat' (with_reducible apply And.intro)) <;> first | with_reducible rfl | exact True.intro | with_reducible assumption | decide | assumption | rfl
  · trivial
end Go.Proofs.Ytbhbjhejkamlnaa.Sx.Z
