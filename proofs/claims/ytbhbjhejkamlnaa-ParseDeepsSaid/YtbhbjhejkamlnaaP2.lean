/-
  parse: statements, whatever the words; a channel.
-/
import Derived.Test.YtbhbjhejkamlnaaP1
namespace Go.Proofs.Ytbhbjhejkamlnaa.Sx.Z
open Go.RowKit
/-- Statements, as far as so many words go. -/
def stR : Nat → PB
  | 0 => fun _ _ _ r => (.l [], r)
  | m + 1 => smA (stR m)
theorem stR_up : ∀ (m : Nat) (en : Int) (ws : D) (dp : Int), PbOK ws (stR m en ws dp)
  | 0, _, _, _ => ⟨fun _ h => ⟨Int.le_refl _, h⟩⟩
  | m + 1, en, ws, dp => smA_up (stR_up m) en ws dp
theorem stm_zero {F : PB} : ConOK Try.prog 72 (stmC F 0) := by
  refine ⟨fun _ _ => by kernel_rfl, fun hp fr args e he hv => ?_, fun hp fr caps e h => by cases h⟩
  exfalso
  obtain ⟨ds, e1, sg, ps1, ps2, hs, hvc, _⟩ := conM_in he
  rw [hvc] at hv
  obtain ⟨_, hv⟩ := all_append.1 hv
  obtain ⟨_, hv⟩ := all_append.1 hv
  unfold stmS at hs
  split at hs
  · simp only [Option.some.injEq, Prod.mk.injEq] at hs
    obtain ⟨rfl, rfl⟩ := hs
    exact Nat.not_lt_zero _ hv.2.2.1
  · cases hs
theorem stm_all : ∀ m, ConOK Try.prog 72 (stmC (stR m) m)
  | 0 => stm_zero
  | m + 1 => stn_ok (P := stR m) (m := m) (stm_all m) (stR_up m)
/-- Statements, whatever words are left. -/
def stX : PB := stR 1000001
theorem stX_ok : ConOK Try.prog 72 (stmC stX 1000001) := stm_all 1000001
theorem stX_up (en : Int) (ws : D) (dp : Int) : PbOK ws (stX en ws dp) := stR_up 1000001 en ws dp
attribute [irreducible] stX
def kwC : ByteArray := ⟨#[99, 104, 97, 110]⟩
def kwU : ByteArray := ⟨#[114, 117, 108, 101]⟩
def kwP : ByteArray := ⟨#[112, 114, 111, 99]⟩
def kwV : ByteArray := ⟨#[118, 97, 114]⟩
def coB : ByteArray := ⟨#[44]⟩
def kwO : ByteArray := ⟨#[102, 114, 111, 109]⟩
def kwT : ByteArray := ⟨#[116, 111]⟩
def kwB : ByteArray := ⟨#[98, 108, 111, 99, 107]⟩
def kwD : ByteArray := ⟨#[100, 114, 111, 112]⟩
def kwY : ByteArray := ⟨#[108, 111, 115, 115, 121]⟩
def acG (t : ByteArray) (ws : D) (r : Rd) : Bool := acB ws r.nx t
theorem ac_lt2 {ws : D} {t : ByteArray} {r : Rd} (ha : acB ws r.nx t = true) : r.nx < (acR ws t r).nx := by
  rw [acR_yes ha]
  exact Int.lt_succ _
def ckK (ws : D) (r : Rd) : Int := if acB ws r.nx kwB = true then 0 else if acB ws (acR ws kwB r).nx kwD = true then 1 else 2
def ckR (ws : D) (en : Int) (r : Rd) : Rd := if acB ws r.nx kwB = true then acR ws kwB r else if acB ws (acR ws kwB r).nx kwD = true then acR ws kwD (acR ws kwB r) else exR ws en kwY (acR ws kwD (acR ws kwB r))
theorem ck_up {ws : D} (en : Int) {r : Rd} (h : rdOK ws r.nx) : rdOK ws (acR ws kwB r).nx ∧ rdOK ws (acR ws kwD (acR ws kwB r)).nx ∧ rdOK ws (ckR ws en r).nx ∧ r.nx ≤ (ckR ws en r).nx := by
  have a := ac_up (t := kwB) h (by decide)
  have b := ac_up (t := kwD) a.1 (by decide)
  have c := ex_up en (t := kwY) b.1 (by decide)
  refine ⟨a.1, b.1, ?_⟩
  unfold ckR
  split
  · exact a
  · split
    · exact ⟨b.1, Int.le_trans a.2 b.2⟩
    · exact ⟨c.1, Int.le_trans a.2 (Int.le_trans b.2 c.2)⟩
structure Ch where
  nm : ByteArray
  k : Int
  n : Int
  fr : ByteArray
  to : ByteArray
  tg : D
def Ch.row (c : Ch) : List D := [.s c.nm, .i c.k, .i c.n, .s c.fr, .s c.to, .l c.tg.rows]
def chA1 (ws : D) (en : Int) (r : Rd) : Rd := ckR ws en (nmR ws en r)
def chA2 (ws : D) (en : Int) (r : Rd) : Rd := exR ws en kwO (nuR ws en (chA1 ws en r))
def chA3 (ws : D) (en : Int) (r : Rd) : Rd := exR ws en kwT (nmR ws en (chA2 ws en r))
def chA4 (ws : D) (en : Int) (r : Rd) : Rd := exR ws en obB (nmR ws en (chA3 ws en r))
def tgF (ws : D) (en : Int) (r : Rd) : List D × Rd := ([.s (nmS ws (acR ws coB r))], nmR ws en (acR ws coB r))
def chT (ws : D) (en : Int) (r : Rd) : D × Rd := seqA (acG coB ws) (tgF ws en) ws (.l [[.s (nmS ws (chA4 ws en r))]]) (nmR ws en (chA4 ws en r))
def chZ (ws : D) (en : Int) (r : Rd) : Ch := ⟨nmS ws r, ckK ws (nmR ws en r), nuN ws (chA1 ws en r), nmS ws (chA2 ws en r), nmS ws (chA3 ws en r), (chT ws en r).1⟩
def chR (ws : D) (en : Int) (r : Rd) : Rd := exR ws en seB (exR ws en cbB (chT ws en r).2)
theorem tg_sq {ws : D} (en : Int) : SqOK ws (acG coB ws) (tgF ws en) := ⟨fun r h hg => by
  have a := ac_up (t := coB) h (by decide)
  have b := nm_up en a.1
  exact ⟨b.1, Int.lt_of_lt_of_le (ac_lt2 hg) b.2⟩⟩
theorem ch_up {ws : D} (en : Int) {r : Rd} (h : rdOK ws r.nx) : (rdOK ws (nmR ws en r).nx ∧ rdOK ws (chA1 ws en r).nx ∧ rdOK ws (nuR ws en (chA1 ws en r)).nx ∧ rdOK ws (chA2 ws en r).nx ∧ rdOK ws (nmR ws en (chA2 ws en r)).nx ∧ rdOK ws (chA3 ws en r).nx ∧ rdOK ws (nmR ws en (chA3 ws en r)).nx ∧ rdOK ws (chA4 ws en r).nx ∧ rdOK ws (nmR ws en (chA4 ws en r)).nx) ∧ rdOK ws (chT ws en r).2.nx ∧ rdOK ws (exR ws en cbB (chT ws en r).2).nx ∧ rdOK ws (chR ws en r).nx ∧ r.nx ≤ (chR ws en r).nx := by
  have a := nm_up en h
  have b := (ck_up en a.1).2.2
  have c := nu_up en b.1
  have d := ex_up en (t := kwO) c.1 (by decide)
  have e := nm_up en d.1
  have f := ex_up en (t := kwT) e.1 (by decide)
  have g := nm_up en f.1
  have i := ex_up en (t := obB) g.1 (by decide)
  have j := nm_up en i.1
  have k := seq_up (tg_sq en) (.l [[.s (nmS ws (chA4 ws en r))]]) j.1
  have l := ex_up en (t := cbB) k.1 (by decide)
  have m := ex_up en (t := seB) l.1 (by decide)
  exact ⟨⟨a.1, b.1, c.1, d.1, e.1, f.1, g.1, i.1, j.1⟩, k.1, l.1, m.1, Int.le_trans a.2 (Int.le_trans b.2 (Int.le_trans c.2 (Int.le_trans d.2 (Int.le_trans e.2 (Int.le_trans f.2 (Int.le_trans g.2 (Int.le_trans i.2 (Int.le_trans j.2 (Int.le_trans k.2 (Int.le_trans l.2 m.2))))))))))⟩
noncomputable def chkS : List Dat → Option (Eff × List Seg) := fun ds => match ds with
  | [.d ws, .i nx, .i en, .i pa, .i er] => some ({ val := .one (.sc (.int .i64 (.sym (ckK ws (mR nx pa er))))), vc := [rdOK ws nx] }, [.c (.rows 115 ws), .c (.int .i64 (.sym ((ckR ws en (mR nx pa er)).nx))), .c (.int .i64 (.sym en)), .c (.int .i64 (.sym ((ckR ws en (mR nx pa er)).pa))), .c (.int .i64 (.sym ((ckR ws en (mR nx pa er)).er)))])
  | _ => none
noncomputable def chkC : Con := conM 64 [.c (.rows 115), .c (.int .i64), .c (.int .i64), .c (.int .i64), .c (.int .i64)] [] chkS
theorem chk_ok : ConOK Try.prog 69 chkC := by
  refine fn_obM tt_ok mixed Try.func69 rfl (fun _ _ => by kernel_rfl) (A := fun ds => ⟨fun _ => Cons.of [(37, accC), (71, expC)], fun _ => none, fun _ => none⟩) (fun _ _ => (cons_cons acc_ok (cons_cons exp_ok cons_nil))) (by kernel_rfl) ?_
  intro ds
  unfold chkS
  split
  · rename_i ws nx en pa er
    refine kmp (q := rdOK ws nx →
 rdOK ws nx ∧
 (0 : Nat) < kwB.size ∧
 (acB ws nx kwB = true →
 (0 : Int) = ckK ws (mR nx pa er) ∧
 ws.rows = ws.rows ∧
 (acR ws kwB (mR nx pa er)).nx = (ckR ws en (mR nx pa er)).nx ∧
 en = en ∧
 (acR ws kwB (mR nx pa er)).pa =
 (ckR ws en (mR nx pa er)).pa ∧
 (acR ws kwB (mR nx pa er)).er =
 (ckR ws en (mR nx pa er)).er) ∧
 (acB ws nx kwB = false →
 rdOK ws (acR ws kwB (mR nx pa er)).nx ∧
 (0 : Nat) < kwD.size ∧
 (acB ws (acR ws kwB (mR nx pa er)).nx
 kwD =
 true →
 (1 : Int) = ckK ws (mR nx pa er) ∧
 ws.rows = ws.rows ∧
 (acR ws kwD
 (acR ws kwB (mR nx pa er))).nx =
 (ckR ws en (mR nx pa er)).nx ∧
 en = en ∧
 (acR ws kwD
 (acR ws kwB (mR nx pa er))).pa =
 (ckR ws en (mR nx pa er)).pa ∧
 (acR ws kwD
 (acR ws kwB (mR nx pa er))).er =
 (ckR ws en (mR nx pa er)).er) ∧
 (acB ws (acR ws kwB (mR nx pa er)).nx
 kwD =
 false →
 rdOK ws
 (acR ws kwD
 (acR ws kwB (mR nx pa er))).nx ∧
 (0 : Nat) < kwY.size ∧
 (2 : Int) = ckK ws (mR nx pa er) ∧
 ws.rows = ws.rows ∧
 (exR ws en kwY
 (acR ws kwD
 (acR ws kwB (mR nx pa er)))).nx =
 (ckR ws en (mR nx pa er)).nx ∧
 en = en ∧
 (exR ws en kwY
 (acR ws kwD
 (acR ws kwB (mR nx pa er)))).pa =
 (ckR ws en (mR nx pa er)).pa ∧
 (exR ws en kwY
 (acR ws kwD
 (acR ws kwB (mR nx pa er)))).er =
 (ckR ws en (mR nx pa er)).er))) (by kernel_rfl) ?_
    intro h
    obtain ⟨a, b, c, d⟩ := ck_up en (r := mR nx pa er) h
    refine ⟨h, by decide, fun hc => ?_, fun hc => ?_⟩
    · have hc : acB ws (mR nx pa er).nx kwB = true := hc
      simp only [ckR, ckK, if_pos hc]
      (repeat' (with_reducible apply And.intro)) <;> first | with_reducible rfl | exact True.intro | with_reducible assumption | decide | assumption | rfl
    · have hc : ¬ acB ws (mR nx pa er).nx kwB = true := by rw [show acB ws (mR nx pa er).nx kwB = false from hc]; decide
      refine ⟨a, by decide, fun hd => ?_, fun hd => ?_⟩
      · have hd : acB ws (acR ws kwB (mR nx pa er)).nx kwD = true := hd
        simp only [ckR, ckK, if_neg hc, if_pos hd]
        (repeat' (with_reducible apply And.intro)) <;> first | with_reducible rfl | exact True.intro | with_reducible assumption | decide | assumption | rfl
      · have hd : ¬ acB ws (acR ws kwB (mR nx pa er)).nx kwD = true := by rw [show acB ws (acR ws kwB (mR nx pa er)).nx kwD = false from hd]; decide
        simp only [ckR, ckK, if_neg hc, if_neg hd]
        (repeat' (with_reducible apply And.intro)) <;> first | with_reducible rfl | exact True.intro | with_reducible assumption | decide | assumption | rfl
  · trivial
noncomputable def chnS : List Dat → Option (Eff × List Seg) := fun ds => match ds with
  | [.d ws, .i nx, .i en, .i pa, .i er] => some ({ val := .one (.agg [.c (.raw (.string ((chZ ws en (mR nx pa er)).nm))), .c (.int .i64 (.sym ((chZ ws en (mR nx pa er)).k))), .c (.int .i64 (.sym ((chZ ws en (mR nx pa er)).n))), .c (.raw (.string ((chZ ws en (mR nx pa er)).fr))), .c (.raw (.string ((chZ ws en (mR nx pa er)).to))), .c (.osl 9 0 (.lit 0) (.sym ((chZ ws en (mR nx pa er)).tg.len)))]), vc := [rdOK ws nx], nw := [(0, .orow 9 ((chZ ws en (mR nx pa er)).tg))] }, [.c (.rows 115 ws), .c (.int .i64 (.sym ((chR ws en (mR nx pa er)).nx))), .c (.int .i64 (.sym en)), .c (.int .i64 (.sym ((chR ws en (mR nx pa er)).pa))), .c (.int .i64 (.sym ((chR ws en (mR nx pa er)).er)))])
  | _ => none
noncomputable def chnC : Con := conM 64 [.c (.rows 115), .c (.int .i64), .c (.int .i64), .c (.int .i64), .c (.int .i64)] [] chnS
theorem chn_ok : ConOK Try.prog 38 chnC := by
  refine fn_obM tt_ok mixed Try.func38 rfl (fun _ _ => by kernel_rfl) (A := fun ds => ⟨fun _ => Cons.of [(68, namC), (69, chkC), (70, numC), (71, expC), (37, accC)], fun k => match k, ds with | 8, [.d ws, .i nx, .i en, .i pa, .i er] => some { ι := D × Rd, pre := fun _ q => rdOK ws q.2.nx ∧ (seqA (acG coB ws) (tgF ws en) ws q.1 q.2 = chT ws en (mR nx pa er)) ∧ q.1.len + left ws q.2 ≤ 1000001, μ := fun q => left ws q.2, st := fun s q => famR s [] [0, 2, 3] [(0, .own 64 ([.c (.rows 115 ws), .c (.int .i64 (.sym ((q.2).nx))), .c (.int .i64 (.sym en)), .c (.int .i64 (.sym ((q.2).pa))), .c (.int .i64 (.sym ((q.2).er)))])), (idOf s 3, .own 97 ([.c (.raw (.string ((chZ ws en (mR nx pa er)).nm))), .c (.int .i64 (.sym ((chZ ws en (mR nx pa er)).k))), .c (.int .i64 (.sym ((chZ ws en (mR nx pa er)).n))), .c (.raw (.string ((chZ ws en (mR nx pa er)).fr))), .c (.raw (.string ((chZ ws en (mR nx pa er)).to))), .c (.osl 9 (cellIdP s 3 5) (.lit 0) (.sym (q.1.len)))])), (cellIdP s 3 5, .orow 9 (q.1))] [2] } | _, _ => none, fun _ => none⟩) (fun _ _ => (cons_cons nam_ok (cons_cons chk_ok (cons_cons num_ok (cons_cons exp_ok (cons_cons acc_ok cons_nil)))))) (by kernel_rfl) ?_
  intro ds
  unfold chnS
  split
  · rename_i ws nx en pa er
    refine kmp (q := rdOK ws nx →
 rdOK ws nx ∧
 rdOK ws (nmR ws en (mR nx pa er)).nx ∧
 rdOK ws (ckR ws en (nmR ws en (mR nx pa er))).nx ∧
 rdOK ws (nuR ws en (ckR ws en (nmR ws en (mR nx pa er)))).nx ∧
 (0 : Nat) < kwO.size ∧
 rdOK ws (exR ws en kwO (nuR ws en (ckR ws en (nmR ws en (mR nx pa er))))).nx ∧
 rdOK ws
 (nmR ws en
 (exR ws en kwO
 (nuR ws en (ckR ws en (nmR ws en (mR nx pa er)))))).nx ∧
 (0 : Nat) < kwT.size ∧
 rdOK ws
 (exR ws en kwT
 (nmR ws en
 (exR ws en kwO
 (nuR ws en (ckR ws en (nmR ws en (mR nx pa er))))))).nx ∧
 rdOK ws
 (nmR ws en
 (exR ws en kwT
 (nmR ws en
 (exR ws en kwO
 (nuR ws en (ckR ws en (nmR ws en (mR nx pa er)))))))).nx ∧
 (0 : Nat) < obB.size ∧
 rdOK ws
 (exR ws en obB
 (nmR ws en
 (exR ws en kwT
 (nmR ws en
 (exR ws en kwO
 (nuR ws en (ckR ws en (nmR ws en (mR nx pa er))))))))).nx ∧
 ((0 : Nat) +
 ((D.l
 [[D.s
 (nmS ws
 (exR ws en obB
 (nmR ws en
 (exR ws en kwT
 (nmR ws en
 (exR ws en kwO
 (nuR ws en (ckR ws en (nmR ws en (mR nx pa er))))))))))]]).sub
 (0 : Nat) ((0 : Nat) + (1 : Nat))).len) *
 (16 : Nat) ≤
 (140737488355328 : Nat) ∧
 (0 : Nat) + (1 : Nat) ≤
 (D.l
 [[D.s
 (nmS ws
 (exR ws en obB
 (nmR ws en
 (exR ws en kwT
 (nmR ws en
 (exR ws en kwO
 (nuR ws en (ckR ws en (nmR ws en (mR nx pa er))))))))))]]).len ∧
 (∃ (i : D × Rd),
 (rdOK ws i.snd.nx ∧
 seqA (acG coB ws) (tgF ws en) ws i.fst i.snd = chT ws en (mR nx pa er) ∧ i.fst.len + left ws i.snd ≤ (1000001 : Nat)) ∧
 ws.rows = ws.rows ∧
 (nmR ws en
 (exR ws en obB
 (nmR ws en
 (exR ws en kwT
 (nmR ws en
 (exR ws en kwO
 (nuR ws en (ckR ws en (nmR ws en (mR nx pa er)))))))))).nx =
 i.snd.nx ∧
 en = en ∧
 (nmR ws en
 (exR ws en obB
 (nmR ws en
 (exR ws en kwT
 (nmR ws en
 (exR ws en kwO
 (nuR ws en (ckR ws en (nmR ws en (mR nx pa er)))))))))).pa =
 i.snd.pa ∧
 (nmR ws en
 (exR ws en obB
 (nmR ws en
 (exR ws en kwT
 (nmR ws en
 (exR ws en kwO
 (nuR ws en (ckR ws en (nmR ws en (mR nx pa er)))))))))).er =
 i.snd.er ∧
 Value.string (nmS ws (mR nx pa er)) = Value.string (chZ ws en (mR nx pa er)).nm ∧
 ckK ws (nmR ws en (mR nx pa er)) = (chZ ws en (mR nx pa er)).k ∧
 nuN ws (ckR ws en (nmR ws en (mR nx pa er))) = (chZ ws en (mR nx pa er)).n ∧
 Value.string
 (nmS ws
 (exR ws en kwO
 (nuR ws en (ckR ws en (nmR ws en (mR nx pa er)))))) =
 Value.string (chZ ws en (mR nx pa er)).fr ∧
 Value.string
 (nmS ws
 (exR ws en kwT
 (nmR ws en
 (exR ws en kwO
 (nuR ws en (ckR ws en (nmR ws en (mR nx pa er)))))))) =
 Value.string (chZ ws en (mR nx pa er)).to ∧
 (1 : Nat) = i.fst.len ∧
 [] ++
 List.drop (0 : Nat)
 (List.take ((0 : Nat) + (1 : Nat))
 [[D.s
 (nmS ws
 (exR ws en obB
 (nmR ws en
 (exR ws en kwT
 (nmR ws en
 (exR ws en
 kwO
 (nuR ws en (ckR ws en (nmR ws en (mR nx pa er))))))))))]]) =
 i.fst.rows ∧
 Value.string ByteArray.empty = Value.string ByteArray.empty ∧
 (0 : Int) = (0 : Int) ∧
 (0 : Int) = (0 : Int) ∧
 Value.string ByteArray.empty = Value.string ByteArray.empty ∧
 Value.string ByteArray.empty = Value.string ByteArray.empty) ∧
 ∀ (i : D × Rd),
 rdOK ws i.snd.nx ∧
 seqA (acG coB ws) (tgF ws en) ws i.fst i.snd = chT ws en (mR nx pa er) ∧ i.fst.len + left ws i.snd ≤ (1000001 : Nat) →
 rdOK ws i.snd.nx ∧
 (0 : Nat) < coB.size ∧
 (acB ws i.snd.nx coB = true →
 rdOK ws (acR ws coB i.snd).nx ∧
 i.fst.len = i.fst.len ∧
 (i.fst.len +
 ((D.l [[D.s (nmS ws (acR ws coB i.snd))]]).sub (0 : Nat)
 ((0 : Nat) + (1 : Nat))).len) *
 (16 : Nat) ≤
 (140737488355328 : Nat) ∧
 (0 : Nat) + (1 : Nat) ≤ (D.l [[D.s (nmS ws (acR ws coB i.snd))]]).len ∧
 ∃ (j : D × Rd),
 (rdOK ws j.snd.nx ∧
 seqA (acG coB ws) (tgF ws en) ws j.fst j.snd = chT ws en (mR nx pa er) ∧
 j.fst.len + left ws j.snd ≤ (1000001 : Nat)) ∧
 left ws j.snd < left ws i.snd ∧
 ws.rows = ws.rows ∧
 (nmR ws en (acR ws coB i.snd)).nx = j.snd.nx ∧
 en = en ∧
 (nmR ws en (acR ws coB i.snd)).pa = j.snd.pa ∧
 (nmR ws en (acR ws coB i.snd)).er = j.snd.er ∧
 Value.string (chZ ws en (mR nx pa er)).nm = Value.string (chZ ws en (mR nx pa er)).nm ∧
 (chZ ws en (mR nx pa er)).k = (chZ ws en (mR nx pa er)).k ∧
 (chZ ws en (mR nx pa er)).n = (chZ ws en (mR nx pa er)).n ∧
 Value.string (chZ ws en (mR nx pa er)).fr =
 Value.string (chZ ws en (mR nx pa er)).fr ∧
 Value.string (chZ ws en (mR nx pa er)).to =
 Value.string (chZ ws en (mR nx pa er)).to ∧
 i.fst.len +
 ((D.l [[D.s (nmS ws (acR ws coB i.snd))]]).sub
 (0 : Nat) ((0 : Nat) + (1 : Nat))).len =
 j.fst.len ∧
 i.fst.rows ++
 List.drop (0 : Nat)
 (List.take ((0 : Nat) + (1 : Nat))
 [[D.s (nmS ws (acR ws coB i.snd))]]) =
 j.fst.rows ∧
 Value.string ByteArray.empty = Value.string ByteArray.empty ∧
 (0 : Int) = (0 : Int) ∧
 (0 : Int) = (0 : Int) ∧
 Value.string ByteArray.empty = Value.string ByteArray.empty ∧
 Value.string ByteArray.empty = Value.string ByteArray.empty) ∧
 (acB ws i.snd.nx coB = false →
 rdOK ws (acR ws coB i.snd).nx ∧
 (0 : Nat) < cbB.size ∧
 rdOK ws (exR ws en cbB (acR ws coB i.snd)).nx ∧
 (0 : Nat) < seB.size ∧
 Value.string (chZ ws en (mR nx pa er)).nm = Value.string (chZ ws en (mR nx pa er)).nm ∧
 (chZ ws en (mR nx pa er)).k = (chZ ws en (mR nx pa er)).k ∧
 (chZ ws en (mR nx pa er)).n = (chZ ws en (mR nx pa er)).n ∧
 Value.string (chZ ws en (mR nx pa er)).fr = Value.string (chZ ws en (mR nx pa er)).fr ∧
 Value.string (chZ ws en (mR nx pa er)).to = Value.string (chZ ws en (mR nx pa er)).to ∧
 i.fst.len = (chZ ws en (mR nx pa er)).tg.len ∧
 ws.rows = ws.rows ∧
 (exR ws en seB
 (exR ws en cbB
 (acR ws coB i.snd))).nx =
 (chR ws en (mR nx pa er)).nx ∧
 en = en ∧
 (exR ws en seB
 (exR ws en cbB
 (acR ws coB i.snd))).pa =
 (chR ws en (mR nx pa er)).pa ∧
 (exR ws en seB
 (exR ws en cbB
 (acR ws coB i.snd))).er =
 (chR ws en (mR nx pa er)).er ∧
 i.fst.rows = (chZ ws en (mR nx pa er)).tg.rows)) (by kernel_rfl) ?_
    intro h
    obtain ⟨⟨a, b, c, d, e, f, g, i, j⟩, k, l, m, n⟩ := ch_up en (r := mR nx pa er) h
    have l0 := (lf_lt j).2
    refine ⟨h, a, b, c, by decide, d, e, by decide, f, g, by decide, i, (by show (0 + 1) * 16 ≤ 140737488355328; decide), Nat.le_refl 1, ⟨(.l [[.s (nmS ws (chA4 ws en (mR nx pa er)))]], nmR ws en (chA4 ws en (mR nx pa er))), ⟨j, rfl, (by show 1 + left ws (nmR ws en (chA4 ws en (mR nx pa er))) ≤ 1000001; omega)⟩, ?_⟩, ?_⟩
    · (repeat' (with_reducible apply And.intro)) <;> first | with_reducible rfl | exact True.intro | with_reducible assumption | decide | assumption | rfl
    rintro q ⟨h1, h2, h3⟩
    refine ⟨h1, by decide, fun hc => ?_, fun hc => ?_⟩
    · have hg : acG coB ws q.2 = true := hc
      obtain ⟨u1, u2⟩ := (tg_sq en).up q.2 h1 hg
      have u3 := lt_left u1 h1 u2
      have hs := seq_step (tg_sq en) (d := q.1) h1 hg
      have hz : (q.1.len + 1) * 16 ≤ 140737488355328 := by omega
      have hl : (D.l (q.1.rows ++ [(tgF ws en q.2).1])).len + left ws (tgF ws en q.2).2 ≤ 1000001 := by rw [ap_len]; omega
      refine ⟨(ac_up (t := coB) h1 (by decide)).1, rfl, hz, Nat.le_refl 1, (.l (q.1.rows ++ [(tgF ws en q.2).1]), (tgF ws en q.2).2), ⟨u1, hs.trans h2, hl⟩, u3, ?_⟩
      (repeat' (with_reducible apply And.intro)) <;> first | with_reducible rfl | exact True.intro | exact (ap_len _ _).symm | rfl
    · have hg : acG coB ws q.2 = false := hc
      have h2 : (q.1, q.2) = chT ws en (mR nx pa er) := (seq_end hg).symm.trans h2
      have f1 := (ex_up en (t := cbB) h1 (by decide)).1
      rw [acR_no (r := q.2) hc]
      simp only [chZ, chR, ← h2]
      (repeat' (with_reducible apply And.intro)) <;> first | with_reducible rfl | exact True.intro | with_reducible assumption | decide | assumption | rfl
  · trivial
end Go.Proofs.Ytbhbjhejkamlnaa.Sx.Z
