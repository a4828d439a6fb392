/-
  parse: a rule, a process.
-/
import Derived.Test.YtbhbjhejkamlnaaP2
namespace Go.Proofs.Ytbhbjhejkamlnaa.Sx.Z
open Go.RowKit
structure Ru where
  ch : ByteArray
  mv : D
def Ru.row (c : Ru) : List D := [.s c.ch, .l c.mv.rows]
def ruA (ws : D) (en : Int) (r : Rd) : Rd := exR ws en obB (nmR ws en r)
def mvG (ws : D) (r : Rd) : Bool := decide (pkK ws r.nx = 2)
def mvX (ws : D) (en : Int) (r : Rd) : Rd := nuR ws en (nmR ws en (nuR ws en r))
def mvF (ws : D) (en : Int) (r : Rd) : List D × Rd := ([.i (nuN ws r), .s (nmS ws (nuR ws en r)), .i (nuN ws (nmR ws en (nuR ws en r)))], exR ws en seB (mvX ws en r))
def ruM (ws : D) (en : Int) (r : Rd) : D × Rd := seqA (mvG ws) (mvF ws en) ws (.l []) (ruA ws en r)
def ruZ (ws : D) (en : Int) (r : Rd) : Ru := ⟨nmS ws r, (ruM ws en r).1⟩
def ruR (ws : D) (en : Int) (r : Rd) : Rd := exR ws en cbB (ruM ws en r).2
theorem mv_sq {ws : D} (en : Int) : SqOK ws (mvG ws) (mvF ws en) := ⟨fun r h hg => by
  have hk : pkK ws r.nx = 2 := of_decide_eq_true hg
  have a := nu_up en h
  have e : (nuR ws en r).nx = r.nx + 1 := by rw [show nuR ws en r = gx r from if_pos hk]; rfl
  have b := nm_up en a.1
  have c := nu_up en b.1
  have d := ex_up en (t := seB) c.1 (by decide)
  refine ⟨d.1, ?_⟩
  have h9 : (nuR ws en r).nx ≤ (exR ws en seB (mvX ws en r)).nx := Int.le_trans b.2 (Int.le_trans c.2 d.2)
  show r.nx < (exR ws en seB (mvX ws en r)).nx
  omega⟩
theorem ru_up {ws : D} (en : Int) {r : Rd} (h : rdOK ws r.nx) : rdOK ws (nmR ws en r).nx ∧ rdOK ws (ruA ws en r).nx ∧ rdOK ws (ruM ws en r).2.nx ∧ rdOK ws (ruR ws en r).nx ∧ r.nx ≤ (ruR ws en r).nx := by
  have a := nm_up en h
  have b := ex_up en (t := obB) a.1 (by decide)
  have k := seq_up (mv_sq en) (.l []) b.1
  have l := ex_up en (t := cbB) k.1 (by decide)
  exact ⟨a.1, b.1, k.1, l.1, Int.le_trans a.2 (Int.le_trans b.2 (Int.le_trans k.2 l.2))⟩
structure Po where
  nm : ByteArray
  vs : D
  b : D
def Po.row (c : Po) : List D := [.s c.nm, .l c.vs.rows, .l c.b.rows]
def vrF (ws : D) (en : Int) (r : Rd) : List D × Rd := ([.s (nmS ws (acR ws kwV r))], exR ws en seB (nmR ws en (acR ws kwV r)))
def poV (ws : D) (en : Int) (r : Rd) : D × Rd := seqA (acG kwV ws) (vrF ws en) ws (.l []) (ruA ws en r)
def poB (ws : D) (en : Int) (r : Rd) : D × Rd := stX en ws 0 (poV ws en r).2
def poZ (ws : D) (en : Int) (r : Rd) : Po := ⟨nmS ws r, (poV ws en r).1, (poB ws en r).1⟩
def poR (ws : D) (en : Int) (r : Rd) : Rd := exR ws en cbB (poB ws en r).2
theorem vr_sq {ws : D} (en : Int) : SqOK ws (acG kwV ws) (vrF ws en) := ⟨fun r h hg => by
  have a := ac_up (t := kwV) h (by decide)
  have b := nm_up en a.1
  have d := ex_up en (t := seB) b.1 (by decide)
  exact ⟨d.1, Int.lt_of_lt_of_le (ac_lt2 hg) (Int.le_trans b.2 d.2)⟩⟩
theorem po_up {ws : D} (en : Int) {r : Rd} (h : rdOK ws r.nx) : rdOK ws (nmR ws en r).nx ∧ rdOK ws (ruA ws en r).nx ∧ rdOK ws (poV ws en r).2.nx ∧ rdOK ws (poB ws en r).2.nx ∧ rdOK ws (poR ws en r).nx ∧ r.nx ≤ (poR ws en r).nx := by
  have a := nm_up en h
  have b := ex_up en (t := obB) a.1 (by decide)
  have k := seq_up (vr_sq en) (.l []) b.1
  have m := (stX_up en ws 0).up _ k.1
  have l := ex_up en (t := cbB) m.2 (by decide)
  exact ⟨a.1, b.1, k.1, m.2, l.1, Int.le_trans a.2 (Int.le_trans b.2 (Int.le_trans k.2 (Int.le_trans m.1 l.2)))⟩
noncomputable def rulS : List Dat → Option (Eff × List Seg) := fun ds => match ds with
  | [.d ws, .i nx, .i en, .i pa, .i er] => some ({ val := .one (.agg [.c (.raw (.string ((ruZ ws en (mR nx pa er)).ch))), .c (.osl 106 0 (.lit 0) (.sym ((ruZ ws en (mR nx pa er)).mv.len)))]), vc := [rdOK ws nx], nw := [(0, .orow 106 ((ruZ ws en (mR nx pa er)).mv))] }, [.c (.rows 115 ws), .c (.int .i64 (.sym ((ruR ws en (mR nx pa er)).nx))), .c (.int .i64 (.sym en)), .c (.int .i64 (.sym ((ruR ws en (mR nx pa er)).pa))), .c (.int .i64 (.sym ((ruR ws en (mR nx pa er)).er)))])
  | _ => none
noncomputable def rulC : Con := conM 64 [.c (.rows 115), .c (.int .i64), .c (.int .i64), .c (.int .i64), .c (.int .i64)] [] rulS
theorem rul_ok : ConOK Try.prog 39 rulC := by
  refine fn_obM tt_ok mixed Try.func39 rfl (fun _ _ => by kernel_rfl) (A := fun ds => ⟨fun _ => Cons.of [(68, namC), (70, numC), (71, expC), (67, pekC)], fun k => match k, ds with | 3, [.d ws, .i nx, .i en, .i pa, .i er] => some { ι := D × Rd, pre := fun _ q => rdOK ws q.2.nx ∧ (seqA (mvG ws) (mvF ws en) ws q.1 q.2 = ruM ws en (mR nx pa er)) ∧ q.1.len + left ws q.2 ≤ 1000001, μ := fun q => left ws q.2, st := fun s q => famN s [] [0, 2, 3] [(0, .own 64 ([.c (.rows 115 ws), .c (.int .i64 (.sym ((q.2).nx))), .c (.int .i64 (.sym en)), .c (.int .i64 (.sym ((q.2).pa))), .c (.int .i64 (.sym ((q.2).er)))])), (idOf s 3, .own 102 ([.c (.raw (.string ((ruZ ws en (mR nx pa er)).ch))), .c (.osl 106 s.nx (.lit 0) (.sym (q.1.len)))])), (s.nx, .orow 106 (q.1))] [2] } | _, _ => none, fun _ => none⟩) (fun _ _ => (cons_cons nam_ok (cons_cons num_ok (cons_cons exp_ok (cons_cons pek_ok cons_nil))))) (by kernel_rfl) ?_
  intro ds
  unfold rulS
  split
  · rename_i ws nx en pa er
    refine kmp (q := rdOK ws nx →
 rdOK ws nx ∧
 rdOK ws (nmR ws en (mR nx pa er)).nx ∧
 (0 : Nat) < obB.size ∧
 (∃ (i : D × Rd),
 (rdOK ws i.snd.nx ∧ seqA (mvG ws) (mvF ws en) ws i.fst i.snd = ruM ws en (mR nx pa er) ∧ i.fst.len + left ws i.snd ≤ (1000001 : Nat)) ∧
 ws.rows = ws.rows ∧
 (exR ws en obB (nmR ws en (mR nx pa er))).nx = i.snd.nx ∧
 en = en ∧
 (exR ws en obB (nmR ws en (mR nx pa er))).pa = i.snd.pa ∧
 (exR ws en obB (nmR ws en (mR nx pa er))).er = i.snd.er ∧
 Value.string (nmS ws (mR nx pa er)) = Value.string (ruZ ws en (mR nx pa er)).ch ∧
 i.fst.len = (0 : Nat) ∧ i.fst.rows = [] ∧ Value.string ByteArray.empty = Value.string ByteArray.empty) ∧
 ∀ (i : D × Rd),
 rdOK ws i.snd.nx ∧ seqA (mvG ws) (mvF ws en) ws i.fst i.snd = ruM ws en (mR nx pa er) ∧ i.fst.len + left ws i.snd ≤ (1000001 : Nat) →
 rdOK ws i.snd.nx ∧
 ((pkK ws i.snd.nx == (2 : Int)) = true →
 rdOK ws i.snd.nx ∧
 rdOK ws (nuR ws en i.snd).nx ∧
 rdOK ws (nmR ws en (nuR ws en i.snd)).nx ∧
 i.fst.len = i.fst.len ∧
 (i.fst.len +
 ((D.l [[D.i (nuN ws i.snd), D.s (nmS ws (nuR ws en i.snd)), D.i (nuN ws (nmR ws en (nuR ws en i.snd)))]]).sub (0 : Nat)
 ((0 : Nat) + (1 : Nat))).len) *
 (32 : Nat) ≤
 (140737488355328 : Nat) ∧
 (0 : Nat) + (1 : Nat) ≤
 (D.l [[D.i (nuN ws i.snd), D.s (nmS ws (nuR ws en i.snd)), D.i (nuN ws (nmR ws en (nuR ws en i.snd)))]]).len ∧
 rdOK ws (nuR ws en (nmR ws en (nuR ws en i.snd))).nx ∧
 (0 : Nat) < seB.size ∧
 ∃ (j : D × Rd),
 (rdOK ws j.snd.nx ∧
 seqA (mvG ws) (mvF ws en) ws j.fst j.snd = ruM ws en (mR nx pa er) ∧ j.fst.len + left ws j.snd ≤ (1000001 : Nat)) ∧
 left ws j.snd < left ws i.snd ∧
 ws.rows = ws.rows ∧
 (exR ws en seB (nuR ws en (nmR ws en (nuR ws en i.snd)))).nx = j.snd.nx ∧
 en = en ∧
 (exR ws en seB (nuR ws en (nmR ws en (nuR ws en i.snd)))).pa = j.snd.pa ∧
 (exR ws en seB (nuR ws en (nmR ws en (nuR ws en i.snd)))).er = j.snd.er ∧
 Value.string (ruZ ws en (mR nx pa er)).ch = Value.string (ruZ ws en (mR nx pa er)).ch ∧
 i.fst.len +
 ((D.l
 [[D.i (nuN ws i.snd), D.s (nmS ws (nuR ws en i.snd)),
 D.i (nuN ws (nmR ws en (nuR ws en i.snd)))]]).sub
 (0 : Nat) ((0 : Nat) + (1 : Nat))).len =
 j.fst.len ∧
 i.fst.rows ++
 List.drop (0 : Nat)
 (List.take ((0 : Nat) + (1 : Nat))
 [[D.i (nuN ws i.snd), D.s (nmS ws (nuR ws en i.snd)),
 D.i (nuN ws (nmR ws en (nuR ws en i.snd)))]]) =
 j.fst.rows ∧
 Value.string ByteArray.empty = Value.string ByteArray.empty) ∧
 ((pkK ws i.snd.nx == (2 : Int)) = false →
 rdOK ws i.snd.nx ∧
 (0 : Nat) < cbB.size ∧
 Value.string (ruZ ws en (mR nx pa er)).ch = Value.string (ruZ ws en (mR nx pa er)).ch ∧
 i.fst.len = (ruZ ws en (mR nx pa er)).mv.len ∧
 ws.rows = ws.rows ∧
 (exR ws en cbB i.snd).nx = (ruR ws en (mR nx pa er)).nx ∧
 en = en ∧
 (exR ws en cbB i.snd).pa = (ruR ws en (mR nx pa er)).pa ∧
 (exR ws en cbB i.snd).er = (ruR ws en (mR nx pa er)).er ∧
 i.fst.rows = (ruZ ws en (mR nx pa er)).mv.rows)) (by kernel_rfl) ?_
    intro h
    obtain ⟨a, b, c, d, e⟩ := ru_up en (r := mR nx pa er) h
    have l0 := (lf_lt b).2
    refine ⟨h, a, by decide, ⟨(.l [], ruA ws en (mR nx pa er)), ⟨b, rfl, (by show 0 + left ws (ruA ws en (mR nx pa er)) ≤ 1000001; omega)⟩, ?_⟩, ?_⟩
    · (repeat' (with_reducible apply And.intro)) <;> first | with_reducible rfl | exact True.intro | with_reducible assumption | decide | assumption | rfl
    rintro q ⟨h1, h2, h3⟩
    refine ⟨h1, fun hc => ?_, fun hc => ?_⟩
    · have hg : mvG ws q.2 = true := decide_eq_true (eq_of_beq hc)
      obtain ⟨u1, u2⟩ := (mv_sq en).up q.2 h1 hg
      have u3 := lt_left u1 h1 u2
      have hs := seq_step (mv_sq en) (d := q.1) h1 hg
      have hz : (q.1.len + 1) * 32 ≤ 140737488355328 := by omega
      have hl : (D.l (q.1.rows ++ [(mvF ws en q.2).1])).len + left ws (mvF ws en q.2).2 ≤ 1000001 := by rw [ap_len]; omega
      have m1 := (nu_up en h1).1
      have m2 := (nm_up en m1).1
      have m3 := (nu_up en m2).1
      refine ⟨h1, m1, m2, rfl, hz, Nat.le_refl 1, m3, by decide, (.l (q.1.rows ++ [(mvF ws en q.2).1]), (mvF ws en q.2).2), ⟨u1, hs.trans h2, hl⟩, u3, ?_⟩
      (repeat' (with_reducible apply And.intro)) <;> first | with_reducible rfl | exact True.intro | exact (ap_len _ _).symm | rfl
    · have hg : mvG ws q.2 = false := decide_eq_false (ne_of_beq_false hc)
      have h2 : (q.1, q.2) = ruM ws en (mR nx pa er) := (seq_end hg).symm.trans h2
      simp only [ruZ, ruR, ← h2]
      (repeat' (with_reducible apply And.intro)) <;> first | with_reducible rfl | exact True.intro | with_reducible assumption | decide | assumption | rfl
  · trivial
noncomputable def proS : List Dat → Option (Eff × List Seg) := fun ds => match ds with
  | [.d ws, .i nx, .i en, .i pa, .i er] => some ({ val := .one (.agg [.c (.raw (.string ((poZ ws en (mR nx pa er)).nm))), .c (.osl 9 0 (.lit 0) (.sym ((poZ ws en (mR nx pa er)).vs.len))), .c (.osl 95 1 (.lit 0) (.sym ((poZ ws en (mR nx pa er)).b.len)))]), vc := [rdOK ws nx], nw := [(0, .orow 9 ((poZ ws en (mR nx pa er)).vs)), (1, .orow 95 ((poZ ws en (mR nx pa er)).b))] }, [.c (.rows 115 ws), .c (.int .i64 (.sym ((poR ws en (mR nx pa er)).nx))), .c (.int .i64 (.sym en)), .c (.int .i64 (.sym ((poR ws en (mR nx pa er)).pa))), .c (.int .i64 (.sym ((poR ws en (mR nx pa er)).er)))])
  | _ => none
noncomputable def proC : Con := conM 64 [.c (.rows 115), .c (.int .i64), .c (.int .i64), .c (.int .i64), .c (.int .i64)] [] proS
theorem pro_ok : ConOK Try.prog 40 proC := by
  refine fn_obM tt_ok mixed Try.func40 rfl (fun _ _ => by kernel_rfl) (A := fun ds => ⟨fun _ => Cons.of [(68, namC), (37, accC), (71, expC), (72, (stmC stX 1000001))], fun k => match k, ds with | 3, [.d ws, .i nx, .i en, .i pa, .i er] => some { ι := D × Rd, pre := fun _ q => rdOK ws q.2.nx ∧ (seqA (acG kwV ws) (vrF ws en) ws q.1 q.2 = poV ws en (mR nx pa er)) ∧ q.1.len + left ws q.2 ≤ 1000001, μ := fun q => left ws q.2, st := fun s q => famN s [] [0, 2, 3] [(0, .own 64 ([.c (.rows 115 ws), .c (.int .i64 (.sym ((q.2).nx))), .c (.int .i64 (.sym en)), .c (.int .i64 (.sym ((q.2).pa))), .c (.int .i64 (.sym ((q.2).er)))])), (idOf s 3, .own 87 ([.c (.raw (.string ((poZ ws en (mR nx pa er)).nm))), .c (.osl 9 s.nx (.lit 0) (.sym (q.1.len))), .c .nils])), (s.nx, .orow 9 (q.1))] [2] } | _, _ => none, fun _ => none⟩) (fun _ _ => (cons_cons nam_ok (cons_cons acc_ok (cons_cons exp_ok (cons_cons stX_ok cons_nil))))) (by kernel_rfl) ?_
  intro ds
  unfold proS
  split
  · rename_i ws nx en pa er
    refine kmp (q := rdOK ws nx →
 rdOK ws nx ∧
 rdOK ws (nmR ws en (mR nx pa er)).nx ∧
 (0 : Nat) < obB.size ∧
 (∃ (i : D × Rd),
 (rdOK ws i.snd.nx ∧ seqA (acG kwV ws) (vrF ws en) ws i.fst i.snd = poV ws en (mR nx pa er) ∧ i.fst.len + left ws i.snd ≤ (1000001 : Nat)) ∧
 ws.rows = ws.rows ∧
 (exR ws en obB (nmR ws en (mR nx pa er))).nx = i.snd.nx ∧
 en = en ∧
 (exR ws en obB (nmR ws en (mR nx pa er))).pa = i.snd.pa ∧
 (exR ws en obB (nmR ws en (mR nx pa er))).er = i.snd.er ∧
 Value.string (nmS ws (mR nx pa er)) = Value.string (poZ ws en (mR nx pa er)).nm ∧
 i.fst.len = (0 : Nat) ∧ i.fst.rows = [] ∧ Value.string ByteArray.empty = Value.string ByteArray.empty) ∧
 ∀ (i : D × Rd),
 rdOK ws i.snd.nx ∧ seqA (acG kwV ws) (vrF ws en) ws i.fst i.snd = poV ws en (mR nx pa er) ∧ i.fst.len + left ws i.snd ≤ (1000001 : Nat) →
 rdOK ws i.snd.nx ∧
 (0 : Nat) < kwV.size ∧
 (acB ws i.snd.nx kwV = true →
 rdOK ws (acR ws kwV i.snd).nx ∧
 i.fst.len = i.fst.len ∧
 (i.fst.len +
 ((D.l [[D.s (nmS ws (acR ws kwV i.snd))]]).sub (0 : Nat)
 ((0 : Nat) + (1 : Nat))).len) *
 (16 : Nat) ≤
 (140737488355328 : Nat) ∧
 (0 : Nat) + (1 : Nat) ≤ (D.l [[D.s (nmS ws (acR ws kwV i.snd))]]).len ∧
 rdOK ws (nmR ws en (acR ws kwV i.snd)).nx ∧
 (0 : Nat) < seB.size ∧
 ∃ (j : D × Rd),
 (rdOK ws j.snd.nx ∧
 seqA (acG kwV ws) (vrF ws en) ws j.fst j.snd = poV ws en (mR nx pa er) ∧ j.fst.len + left ws j.snd ≤ (1000001 : Nat)) ∧
 left ws j.snd < left ws i.snd ∧
 ws.rows = ws.rows ∧
 (exR ws en seB
 (nmR ws en (acR ws kwV i.snd))).nx =
 j.snd.nx ∧
 en = en ∧
 (exR ws en seB
 (nmR ws en (acR ws kwV i.snd))).pa =
 j.snd.pa ∧
 (exR ws en seB
 (nmR ws en (acR ws kwV i.snd))).er =
 j.snd.er ∧
 Value.string (poZ ws en (mR nx pa er)).nm = Value.string (poZ ws en (mR nx pa er)).nm ∧
 i.fst.len +
 ((D.l [[D.s (nmS ws (acR ws kwV i.snd))]]).sub
 (0 : Nat) ((0 : Nat) + (1 : Nat))).len =
 j.fst.len ∧
 i.fst.rows ++
 List.drop (0 : Nat)
 (List.take ((0 : Nat) + (1 : Nat))
 [[D.s (nmS ws (acR ws kwV i.snd))]]) =
 j.fst.rows ∧
 Value.string ByteArray.empty = Value.string ByteArray.empty) ∧
 (acB ws i.snd.nx kwV = false →
 rdOK ws (acR ws kwV i.snd).nx ∧
 dpOK ws (acR ws kwV i.snd) (0 : Int) ∧
 left ws (acR ws kwV i.snd) < (1000001 : Nat) ∧
 rdOK ws (stX en ws (0 : Int) (acR ws kwV i.snd)).snd.nx ∧
 (0 : Nat) < cbB.size ∧
 Value.string (poZ ws en (mR nx pa er)).nm = Value.string (poZ ws en (mR nx pa er)).nm ∧
 i.fst.len = (poZ ws en (mR nx pa er)).vs.len ∧
 (stX en ws (0 : Int) (acR ws kwV i.snd)).fst.len =
 (poZ ws en (mR nx pa er)).b.len ∧
 ws.rows = ws.rows ∧
 (exR ws en cbB
 (stX en ws (0 : Int) (acR ws kwV i.snd)).snd).nx =
 (poR ws en (mR nx pa er)).nx ∧
 en = en ∧
 (exR ws en cbB
 (stX en ws (0 : Int) (acR ws kwV i.snd)).snd).pa =
 (poR ws en (mR nx pa er)).pa ∧
 (exR ws en cbB
 (stX en ws (0 : Int) (acR ws kwV i.snd)).snd).er =
 (poR ws en (mR nx pa er)).er ∧
 i.fst.rows = (poZ ws en (mR nx pa er)).vs.rows ∧
 (stX en ws (0 : Int) (acR ws kwV i.snd)).fst.rows =
 (poZ ws en (mR nx pa er)).b.rows)) (by kernel_rfl) ?_
    intro h
    obtain ⟨a, b, c, d, e, f⟩ := po_up en (r := mR nx pa er) h
    have l0 := (lf_lt b).2
    refine ⟨h, a, by decide, ⟨(.l [], ruA ws en (mR nx pa er)), ⟨b, rfl, (by show 0 + left ws (ruA ws en (mR nx pa er)) ≤ 1000001; omega)⟩, ?_⟩, ?_⟩
    · (repeat' (with_reducible apply And.intro)) <;> first | with_reducible rfl | exact True.intro | with_reducible assumption | decide | assumption | rfl
    rintro q ⟨h1, h2, h3⟩
    refine ⟨h1, by decide, fun hc => ?_, fun hc => ?_⟩
    · have hg : acG kwV ws q.2 = true := hc
      obtain ⟨u1, u2⟩ := (vr_sq en).up q.2 h1 hg
      have u3 := lt_left u1 h1 u2
      have hs := seq_step (vr_sq en) (d := q.1) h1 hg
      have hz : (q.1.len + 1) * 16 ≤ 140737488355328 := by omega
      have hl : (D.l (q.1.rows ++ [(vrF ws en q.2).1])).len + left ws (vrF ws en q.2).2 ≤ 1000001 := by rw [ap_len]; omega
      have m1 := (ac_up (t := kwV) h1 (by decide)).1
      have m2 := (nm_up en m1).1
      refine ⟨m1, rfl, hz, Nat.le_refl 1, m2, by decide, (.l (q.1.rows ++ [(vrF ws en q.2).1]), (vrF ws en q.2).2), ⟨u1, hs.trans h2, hl⟩, u3, ?_⟩
      (repeat' (with_reducible apply And.intro)) <;> first | with_reducible rfl | exact True.intro | exact (ap_len _ _).symm | rfl
    · have hg : acG kwV ws q.2 = false := hc
      have h2 : (q.1, q.2) = poV ws en (mR nx pa er) := (seq_end hg).symm.trans h2
      rw [acR_no (r := q.2) hc]
      have f1 := (lf_lt h1).1
      have f2 := (lf_lt h1).2
      have f3 := ((stX_up en ws 0).up _ h1).2
      simp only [etR, poZ, poR, poB, ← h2]
      (repeat' (with_reducible apply And.intro)) <;> first | with_reducible rfl | exact True.intro | with_reducible assumption | decide | assumption | rfl
  · trivial
end Go.Proofs.Ytbhbjhejkamlnaa.Sx.Z
