/-
  parse: statements, over what statements of fewer words do.
-/
import Derived.Test.YtbhbjhejkamlnaaPz
namespace Go.Proofs.Ytbhbjhejkamlnaa.Sx
/-- As famR, with a new number for a row that isn't there yet. -/
def famN (s : St) (sl : Slots) (ks : List Nat) (es : Heap) (hs : List Nat) : St := { tm := sl ++ keepS s.tm ks, hp := es ++ keepH s.hp (hs.map (idOf s)), nx := s.nx + 1 }
end Go.Proofs.Ytbhbjhejkamlnaa.Sx
namespace Go.Proofs.Ytbhbjhejkamlnaa.Sx.Z
open Go.RowKit
def asS (ws : D) (en : Int) (r : Rd) : St := ⟨1, nmS ws r, ByteArray.empty, (asE ws en r).1, C00, .l [], .l [], .l []⟩
def snS (ws : D) (en : Int) (r : Rd) : St := ⟨4, nmS ws (snN ws en r), nmS ws (snT ws en r), (snE ws en r).1, C00, .l [], .l [], .l []⟩
def atS (ws : D) (en : Int) (r : Rd) : St := ⟨6, ByteArray.empty, ByteArray.empty, X00, atC ws en r, .l [], .l [], .l []⟩
def inS (ws : D) (en : Int) (r : Rd) : St := ⟨7, nmS ws (exR ws en kwI r), ByteArray.empty, X00, C00, .l [], .l [], .l []⟩
def stF (P : PB) (en : Int) (ws : D) (dp : Int) (r : Rd) : St × Rd :=
  if acB ws r.nx kwF = true then (cfS P en ws dp r, (cfB P en ws dp r).2)
  else if acB ws r.nx kwW = true then (lpS P en ws dp r, (lpA P en ws dp r).2)
  else if acB ws r.nx kwS = true then (snS ws en r, snR ws en r)
  else if acB ws r.nx kwR = true then (rvS P en ws dp r, rvR P en ws dp r)
  else if acB ws r.nx kwA = true then (atS ws en r, atR ws en r)
  else if acB ws r.nx kwI = true then (inS ws en r, inR ws en r)
  else (asS ws en r, asR ws en r)
def stH (P : PB) (en : Int) (ws : D) (dp : Int) (r : Rd) : List D × Rd := ((stF P en ws dp r).1.row, (stF P en ws dp r).2)
def stG (ws : D) (r : Rd) : Bool := acB ws r.nx kwF || acB ws r.nx kwW || acB ws r.nx kwS || acB ws r.nx kwR || acB ws r.nx kwA || acB ws r.nx kwI || decide (pkK ws r.nx = 1)
def smA (P : PB) : PB := fun en ws dp r => seqA (stG ws) (stH P en ws dp) ws (.l []) r
theorem cf_up {P : PB} {ws : D} {en : Int} (hPa : ∀ dp, PbOK ws (P en ws dp)) {dp : Int} {r : Rd} (h : rdOK ws r.nx) : rdOK ws (cfB P en ws dp r).2.nx ∧ (exR ws en kwF r).nx ≤ (cfB P en ws dp r).2.nx := by
  have a0 := (ex_up en (t := kwF) h (by decide)).1
  obtain ⟨_, _, _, _, a5, a6⟩ := cd_up en a0
  obtain ⟨b1, b2, b3, b4, b5⟩ := blF_up hPa (dp := dp) a5
  have c1 := ac_up (t := kwL) b4 (by decide)
  obtain ⟨d3, d4, d5, d6, d7⟩ := blF_up hPa (dp := dp) c1.1
  unfold cfB
  split
  · exact ⟨d6, Int.le_trans a6 (Int.le_trans b5 (Int.le_trans c1.2 d7))⟩
  · exact ⟨c1.1, Int.le_trans a6 (Int.le_trans b5 c1.2)⟩
theorem lp_up {P : PB} {ws : D} {en : Int} (hPa : ∀ dp, PbOK ws (P en ws dp)) {dp : Int} {r : Rd} (h : rdOK ws r.nx) : rdOK ws (lpA P en ws dp r).2.nx ∧ (exR ws en kwW r).nx ≤ (lpA P en ws dp r).2.nx := by
  have a0 := (ex_up en (t := kwW) h (by decide)).1
  obtain ⟨_, _, _, _, a5, a6⟩ := cd_up en a0
  obtain ⟨b1, b2, b3, b4, b5⟩ := blF_up hPa (dp := dp) a5
  exact ⟨b4, Int.le_trans a6 b5⟩
theorem sn_up {ws : D} (en : Int) {r : Rd} (h : rdOK ws r.nx) : rdOK ws (snR ws en r).nx ∧ (exR ws en kwS r).nx ≤ (snR ws en r).nx := by
  have a1 := ex_up en (t := kwS) h (by decide)
  have a2 := nm_up en a1.1
  have a3 := ex_up en (t := doB) a2.1 (by decide)
  have a4 := nm_up en a3.1
  have a5 := ex_up en (t := opB) a4.1 (by decide)
  have a6 := (smX_up en ws 0).up _ a5.1
  have a7 := ex_up en (t := clB) a6.2.1 (by decide)
  have a8 := ex_up en (t := seB) a7.1 (by decide)
  exact ⟨a8.1, Int.le_trans a2.2 (Int.le_trans a3.2 (Int.le_trans a4.2 (Int.le_trans a5.2 (Int.le_trans a6.1 (Int.le_trans a7.2 a8.2)))))⟩
theorem at_up {ws : D} (en : Int) {r : Rd} (h : rdOK ws r.nx) : rdOK ws (atR ws en r).nx ∧ (exR ws en kwA r).nx ≤ (atR ws en r).nx := by
  have a1 := ex_up en (t := kwA) h (by decide)
  obtain ⟨_, _, _, _, a5, a6⟩ := cd_up en a1.1
  have a8 := ex_up en (t := seB) a5 (by decide)
  exact ⟨a8.1, Int.le_trans a6 a8.2⟩
theorem in_up {ws : D} (en : Int) {r : Rd} (h : rdOK ws r.nx) : rdOK ws (inR ws en r).nx ∧ (exR ws en kwI r).nx ≤ (inR ws en r).nx := by
  have a1 := ex_up en (t := kwI) h (by decide)
  have a2 := nm_up en a1.1
  have a8 := ex_up en (t := seB) a2.1 (by decide)
  exact ⟨a8.1, Int.le_trans a2.2 a8.2⟩
theorem as_up {ws : D} (en : Int) {r : Rd} (h : rdOK ws r.nx) : rdOK ws (asR ws en r).nx ∧ (nmR ws en r).nx ≤ (asR ws en r).nx := by
  have a2 := nm_up en h
  have a3 := ex_up en (t := eqB) a2.1 (by decide)
  have a6 := (smX_up en ws 0).up _ a3.1
  have a8 := ex_up en (t := seB) a6.2.1 (by decide)
  exact ⟨a8.1, Int.le_trans a3.2 (Int.le_trans a6.1 a8.2)⟩

theorem st_sq {P : PB} {ws : D} {en : Int} (hPa : ∀ dp, PbOK ws (P en ws dp)) (dp : Int) : SqOK ws (stG ws) (stH P en ws dp) := ⟨fun r h hg => by
  unfold stH stF
  by_cases k0 : acB ws r.nx kwF = true
  · simp only [if_pos k0]
    have u : rdOK ws ((cfB P en ws dp r).2).nx ∧ (exR ws en kwF r).nx ≤ ((cfB P en ws dp r).2).nx := cf_up hPa h
    exact ⟨u.1, Int.lt_of_lt_of_le (ex_lt en (ac_lt (by decide) k0)) u.2⟩
  by_cases k1 : acB ws r.nx kwW = true
  · simp only [if_neg k0, if_pos k1]
    have u : rdOK ws ((lpA P en ws dp r).2).nx ∧ (exR ws en kwW r).nx ≤ ((lpA P en ws dp r).2).nx := lp_up hPa h
    exact ⟨u.1, Int.lt_of_lt_of_le (ex_lt en (ac_lt (by decide) k1)) u.2⟩
  by_cases k2 : acB ws r.nx kwS = true
  · simp only [if_neg k0, if_neg k1, if_pos k2]
    have u : rdOK ws (snR ws en r).nx ∧ (exR ws en kwS r).nx ≤ (snR ws en r).nx := sn_up en h
    exact ⟨u.1, Int.lt_of_lt_of_le (ex_lt en (ac_lt (by decide) k2)) u.2⟩
  by_cases k3 : acB ws r.nx kwR = true
  · simp only [if_neg k0, if_neg k1, if_neg k2, if_pos k3]
    have u : rdOK ws (rvR P en ws dp r).nx ∧ (exR ws en kwR r).nx ≤ (rvR P en ws dp r).nx := ⟨(rv_up hPa h).2.2.2.2.2.2.1, Int.le_trans (rv_up hPa (dp := dp) h).2.2.2.1 (rv_up hPa h).2.2.2.2.2.2.2⟩
    exact ⟨u.1, Int.lt_of_lt_of_le (ex_lt en (ac_lt (by decide) k3)) u.2⟩
  by_cases k4 : acB ws r.nx kwA = true
  · simp only [if_neg k0, if_neg k1, if_neg k2, if_neg k3, if_pos k4]
    have u : rdOK ws (atR ws en r).nx ∧ (exR ws en kwA r).nx ≤ (atR ws en r).nx := at_up en h
    exact ⟨u.1, Int.lt_of_lt_of_le (ex_lt en (ac_lt (by decide) k4)) u.2⟩
  by_cases k5 : acB ws r.nx kwI = true
  · simp only [if_neg k0, if_neg k1, if_neg k2, if_neg k3, if_neg k4, if_pos k5]
    have u : rdOK ws (inR ws en r).nx ∧ (exR ws en kwI r).nx ≤ (inR ws en r).nx := in_up en h
    exact ⟨u.1, Int.lt_of_lt_of_le (ex_lt en (ac_lt (by decide) k5)) u.2⟩
  have hk : pkK ws r.nx = 1 := by
    simpa [stG, k0, k1, k2, k3, k4, k5] using hg
  simp only [if_neg k0, if_neg k1, if_neg k2, if_neg k3, if_neg k4, if_neg k5]
  have u := as_up en h
  have e : (nmR ws en r).nx = r.nx + 1 := by rw [show nmR ws en r = gx r from if_pos hk]; rfl
  exact ⟨u.1, by omega⟩⟩
theorem smA_up {P : PB} (hPa : ∀ en ws dp, PbOK ws (P en ws dp)) (en : Int) (ws : D) (dp : Int) : PbOK ws (smA P en ws dp) := ⟨fun r h => by
  have := seq_up (st_sq (hPa en ws) dp) (.l []) h
  exact ⟨this.2, this.1⟩⟩
noncomputable def stnS (P : PB) (m : Nat) : List Dat → Option (Eff × List Seg) := fun ds => match ds with
  | [.d ws, .i nx, .i en, .i pa, .i er, .i dp] => some ({ val := .one (.sc (.osl 95 (0) (.lit 0) (.sym ((smA P en ws dp (mR nx pa er)).1.len)))), vc := [rdOK ws nx, dpOK ws (mR nx pa er) dp, left ws (mR nx pa er) < m + 1], nw := [(0, .orow 95 ((smA P en ws dp (mR nx pa er)).1))] }, [.c (.rows 115 ws), .c (.int .i64 (.sym ((((smA P en ws dp (mR nx pa er)).2)).nx))), .c (.int .i64 (.sym en)), .c (.int .i64 (.sym ((((smA P en ws dp (mR nx pa er)).2)).pa))), .c (.int .i64 (.sym ((((smA P en ws dp (mR nx pa er)).2)).er)))])
  | _ => none
noncomputable def stnC (P : PB) (m : Nat) : Con := conM 64 [.c (.rows 115), .c (.int .i64), .c (.int .i64), .c (.int .i64), .c (.int .i64)] [.sc (.int .i64)] (stnS P m)
theorem stn_ok {P : PB} {m : Nat} (hP : ConOK Try.prog 72 (stmC P m)) (hPa : ∀ en ws dp, PbOK ws (P en ws dp)) : ConOK Try.prog 72 (stnC P m) := by
  refine fn_obM tt_ok mixed Try.func72 rfl (fun _ _ => by kernel_rfl) (A := fun ds => ⟨fun _ => Cons.of [(85, (choC P m)), (86, (lopC P m)), (88, (rcvC P m)), (87, sndC), (89, assC), (90, inpC), (91, asgC), (67, pekC)], fun k => match k, ds with | 2, [.d ws, .i nx, .i en, .i pa, .i er, .i dp] => some { ι := D × Rd, pre := fun _ q => rdOK ws q.2.nx ∧ (seqA (stG ws) (stH P en ws dp) ws q.1 q.2 = smA P en ws dp (mR nx pa er)) ∧ q.1.len + left ws q.2 ≤ 1000001 ∧ nx ≤ q.2.nx, μ := fun q => left ws q.2, st := fun s q => famN s [(5, .one (.sc (.osl 95 (s.nx) (.lit 0) (.sym (q.1.len)))))] [0, 1] [(0, .own 64 ([.c (.rows 115 ws), .c (.int .i64 (.sym ((q.2).nx))), .c (.int .i64 (.sym en)), .c (.int .i64 (.sym ((q.2).pa))), .c (.int .i64 (.sym ((q.2).er)))])), (s.nx, .orow 95 (q.1))] [] } | _, _ => none, fun _ => none⟩) (fun _ _ => (cons_cons (cho_ok hP hPa) (cons_cons (lop_ok hP hPa) (cons_cons (rcv_ok hP hPa) (cons_cons snd_ok (cons_cons ass_ok (cons_cons inp_ok (cons_cons asg_ok (cons_cons pek_ok cons_nil))))))))) (by kernel_rfl) ?_
  intro ds
  unfold stnS
  split
  · rename_i ws nx en pa er dp
    refine kmp (q := rdOK ws nx →
 dpOK ws (mR nx pa er) dp →
 left ws (mR nx pa er) < m + (1 : Nat) →
 (∃ (i : D × Rd),
 (rdOK ws i.snd.nx ∧
 seqA (stG ws) (stH P en ws dp) ws i.fst i.snd = smA P en ws dp (mR nx pa er) ∧ i.fst.len + left ws i.snd ≤ (1000001 : Nat) ∧ nx ≤ i.snd.nx) ∧
 i.fst.len = (0 : Nat) ∧ dp = dp ∧ ws.rows = ws.rows ∧ nx = i.snd.nx ∧ en = en ∧ pa = i.snd.pa ∧ er = i.snd.er ∧ i.fst.rows = []) ∧
 ∀ (i : D × Rd),
 rdOK ws i.snd.nx ∧
 seqA (stG ws) (stH P en ws dp) ws i.fst i.snd = smA P en ws dp (mR nx pa er) ∧ i.fst.len + left ws i.snd ≤ (1000001 : Nat) ∧ nx ≤ i.snd.nx →
 rdOK ws i.snd.nx ∧
 (((pkS ws i.snd.nx).toList == kwF.toList) = true →
 rdOK ws i.snd.nx ∧
 dpOK ws i.snd dp ∧
 left ws i.snd < m + (1 : Nat) ∧
 i.snd.nx < (↑ws.len : Int) ∧
 (0 : Nat) + (cfS P en ws dp i.snd).e.d.len ≤ (cfS P en ws dp i.snd).e.d.len ∧
 (0 : Nat) + (cfS P en ws dp i.snd).c.l.d.len ≤ (cfS P en ws dp i.snd).c.l.d.len ∧
 (0 : Nat) + (cfS P en ws dp i.snd).c.r.d.len ≤ (cfS P en ws dp i.snd).c.r.d.len ∧
 (0 : Nat) + (cfS P en ws dp i.snd).b.len ≤ (cfS P en ws dp i.snd).b.len ∧
 (0 : Nat) + (cfS P en ws dp i.snd).el.len ≤ (cfS P en ws dp i.snd).el.len ∧
 (0 : Nat) + (cfS P en ws dp i.snd).ar.len ≤ (cfS P en ws dp i.snd).ar.len ∧
 i.fst.len = i.fst.len ∧
 (i.fst.len +
 ((D.l
 [[D.i (cfS P en ws dp i.snd).k, D.s (cfS P en ws dp i.snd).nm, D.s (cfS P en ws dp i.snd).tg,
 D.i (cfS P en ws dp i.snd).e.k, D.i (cfS P en ws dp i.snd).e.n, D.s (cfS P en ws dp i.snd).e.s,
 (cfS P en ws dp i.snd).e.d.sub (0 : Nat) ((0 : Nat) + (cfS P en ws dp i.snd).e.d.len),
 D.i (cfS P en ws dp i.snd).c.op, D.i (cfS P en ws dp i.snd).c.l.k, D.i (cfS P en ws dp i.snd).c.l.n,
 D.s (cfS P en ws dp i.snd).c.l.s,
 (cfS P en ws dp i.snd).c.l.d.sub (0 : Nat) ((0 : Nat) + (cfS P en ws dp i.snd).c.l.d.len),
 D.i (cfS P en ws dp i.snd).c.r.k, D.i (cfS P en ws dp i.snd).c.r.n,
 D.s (cfS P en ws dp i.snd).c.r.s,
 (cfS P en ws dp i.snd).c.r.d.sub (0 : Nat) ((0 : Nat) + (cfS P en ws dp i.snd).c.r.d.len),
 (cfS P en ws dp i.snd).b.sub (0 : Nat) ((0 : Nat) + (cfS P en ws dp i.snd).b.len),
 (cfS P en ws dp i.snd).el.sub (0 : Nat) ((0 : Nat) + (cfS P en ws dp i.snd).el.len),
 (cfS P en ws dp i.snd).ar.sub (0 : Nat) ((0 : Nat) + (cfS P en ws dp i.snd).ar.len)]]).sub
 (0 : Nat) ((0 : Nat) + (1 : Nat))).len) *
 (288 : Nat) ≤
 (140737488355328 : Nat) ∧
 (0 : Nat) + (1 : Nat) ≤
 (D.l
 [[D.i (cfS P en ws dp i.snd).k, D.s (cfS P en ws dp i.snd).nm, D.s (cfS P en ws dp i.snd).tg,
 D.i (cfS P en ws dp i.snd).e.k, D.i (cfS P en ws dp i.snd).e.n, D.s (cfS P en ws dp i.snd).e.s,
 (cfS P en ws dp i.snd).e.d.sub (0 : Nat) ((0 : Nat) + (cfS P en ws dp i.snd).e.d.len),
 D.i (cfS P en ws dp i.snd).c.op, D.i (cfS P en ws dp i.snd).c.l.k, D.i (cfS P en ws dp i.snd).c.l.n,
 D.s (cfS P en ws dp i.snd).c.l.s,
 (cfS P en ws dp i.snd).c.l.d.sub (0 : Nat) ((0 : Nat) + (cfS P en ws dp i.snd).c.l.d.len),
 D.i (cfS P en ws dp i.snd).c.r.k, D.i (cfS P en ws dp i.snd).c.r.n, D.s (cfS P en ws dp i.snd).c.r.s,
 (cfS P en ws dp i.snd).c.r.d.sub (0 : Nat) ((0 : Nat) + (cfS P en ws dp i.snd).c.r.d.len),
 (cfS P en ws dp i.snd).b.sub (0 : Nat) ((0 : Nat) + (cfS P en ws dp i.snd).b.len),
 (cfS P en ws dp i.snd).el.sub (0 : Nat) ((0 : Nat) + (cfS P en ws dp i.snd).el.len),
 (cfS P en ws dp i.snd).ar.sub (0 : Nat) ((0 : Nat) + (cfS P en ws dp i.snd).ar.len)]]).len ∧
 ∃ (j : D × Rd),
 (rdOK ws j.snd.nx ∧
 seqA (stG ws) (stH P en ws dp) ws j.fst j.snd = smA P en ws dp (mR nx pa er) ∧
 j.fst.len + left ws j.snd ≤ (1000001 : Nat) ∧ nx ≤ j.snd.nx) ∧
 left ws j.snd < left ws i.snd ∧
 i.fst.len +
 ((D.l
 [[D.i (cfS P en ws dp i.snd).k, D.s (cfS P en ws dp i.snd).nm, D.s (cfS P en ws dp i.snd).tg,
 D.i (cfS P en ws dp i.snd).e.k, D.i (cfS P en ws dp i.snd).e.n,
 D.s (cfS P en ws dp i.snd).e.s,
 (cfS P en ws dp i.snd).e.d.sub (0 : Nat) ((0 : Nat) + (cfS P en ws dp i.snd).e.d.len),
 D.i (cfS P en ws dp i.snd).c.op, D.i (cfS P en ws dp i.snd).c.l.k,
 D.i (cfS P en ws dp i.snd).c.l.n, D.s (cfS P en ws dp i.snd).c.l.s,
 (cfS P en ws dp i.snd).c.l.d.sub (0 : Nat) ((0 : Nat) + (cfS P en ws dp i.snd).c.l.d.len),
 D.i (cfS P en ws dp i.snd).c.r.k, D.i (cfS P en ws dp i.snd).c.r.n,
 D.s (cfS P en ws dp i.snd).c.r.s,
 (cfS P en ws dp i.snd).c.r.d.sub (0 : Nat) ((0 : Nat) + (cfS P en ws dp i.snd).c.r.d.len),
 (cfS P en ws dp i.snd).b.sub (0 : Nat) ((0 : Nat) + (cfS P en ws dp i.snd).b.len),
 (cfS P en ws dp i.snd).el.sub (0 : Nat) ((0 : Nat) + (cfS P en ws dp i.snd).el.len),
 (cfS P en ws dp i.snd).ar.sub (0 : Nat) ((0 : Nat) + (cfS P en ws dp i.snd).ar.len)]]).sub
 (0 : Nat) ((0 : Nat) + (1 : Nat))).len =
 j.fst.len ∧
 dp = dp ∧
 ws.rows = ws.rows ∧
 (cfB P en ws dp i.snd).snd.nx = j.snd.nx ∧
 en = en ∧
 (cfB P en ws dp i.snd).snd.pa = j.snd.pa ∧
 (cfB P en ws dp i.snd).snd.er = j.snd.er ∧
 i.fst.rows ++
 List.drop (0 : Nat)
 (List.take ((0 : Nat) + (1 : Nat))
 [[D.i (cfS P en ws dp i.snd).k, D.s (cfS P en ws dp i.snd).nm,
 D.s (cfS P en ws dp i.snd).tg, D.i (cfS P en ws dp i.snd).e.k,
 D.i (cfS P en ws dp i.snd).e.n, D.s (cfS P en ws dp i.snd).e.s,
 (cfS P en ws dp i.snd).e.d.sub (0 : Nat)
 ((0 : Nat) + (cfS P en ws dp i.snd).e.d.len),
 D.i (cfS P en ws dp i.snd).c.op, D.i (cfS P en ws dp i.snd).c.l.k,
 D.i (cfS P en ws dp i.snd).c.l.n, D.s (cfS P en ws dp i.snd).c.l.s,
 (cfS P en ws dp i.snd).c.l.d.sub (0 : Nat)
 ((0 : Nat) + (cfS P en ws dp i.snd).c.l.d.len),
 D.i (cfS P en ws dp i.snd).c.r.k, D.i (cfS P en ws dp i.snd).c.r.n,
 D.s (cfS P en ws dp i.snd).c.r.s,
 (cfS P en ws dp i.snd).c.r.d.sub (0 : Nat)
 ((0 : Nat) + (cfS P en ws dp i.snd).c.r.d.len),
 (cfS P en ws dp i.snd).b.sub (0 : Nat) ((0 : Nat) + (cfS P en ws dp i.snd).b.len),
 (cfS P en ws dp i.snd).el.sub (0 : Nat) ((0 : Nat) + (cfS P en ws dp i.snd).el.len),
 (cfS P en ws dp i.snd).ar.sub (0 : Nat)
 ((0 : Nat) + (cfS P en ws dp i.snd).ar.len)]]) =
 j.fst.rows) ∧
 (((pkS ws i.snd.nx).toList == kwF.toList) = false →
 (((pkS ws i.snd.nx).toList == kwW.toList) = true →
 rdOK ws i.snd.nx ∧
 dpOK ws i.snd dp ∧
 left ws i.snd < m + (1 : Nat) ∧
 i.snd.nx < (↑ws.len : Int) ∧
 (0 : Nat) + (lpS P en ws dp i.snd).e.d.len ≤ (lpS P en ws dp i.snd).e.d.len ∧
 (0 : Nat) + (lpS P en ws dp i.snd).c.l.d.len ≤ (lpS P en ws dp i.snd).c.l.d.len ∧
 (0 : Nat) + (lpS P en ws dp i.snd).c.r.d.len ≤ (lpS P en ws dp i.snd).c.r.d.len ∧
 (0 : Nat) + (lpS P en ws dp i.snd).b.len ≤ (lpS P en ws dp i.snd).b.len ∧
 (0 : Nat) + (lpS P en ws dp i.snd).el.len ≤ (lpS P en ws dp i.snd).el.len ∧
 (0 : Nat) + (lpS P en ws dp i.snd).ar.len ≤ (lpS P en ws dp i.snd).ar.len ∧
 i.fst.len = i.fst.len ∧
 (i.fst.len +
 ((D.l
 [[D.i (lpS P en ws dp i.snd).k, D.s (lpS P en ws dp i.snd).nm, D.s (lpS P en ws dp i.snd).tg,
 D.i (lpS P en ws dp i.snd).e.k, D.i (lpS P en ws dp i.snd).e.n, D.s (lpS P en ws dp i.snd).e.s,
 (lpS P en ws dp i.snd).e.d.sub (0 : Nat) ((0 : Nat) + (lpS P en ws dp i.snd).e.d.len),
 D.i (lpS P en ws dp i.snd).c.op, D.i (lpS P en ws dp i.snd).c.l.k,
 D.i (lpS P en ws dp i.snd).c.l.n, D.s (lpS P en ws dp i.snd).c.l.s,
 (lpS P en ws dp i.snd).c.l.d.sub (0 : Nat) ((0 : Nat) + (lpS P en ws dp i.snd).c.l.d.len),
 D.i (lpS P en ws dp i.snd).c.r.k, D.i (lpS P en ws dp i.snd).c.r.n,
 D.s (lpS P en ws dp i.snd).c.r.s,
 (lpS P en ws dp i.snd).c.r.d.sub (0 : Nat) ((0 : Nat) + (lpS P en ws dp i.snd).c.r.d.len),
 (lpS P en ws dp i.snd).b.sub (0 : Nat) ((0 : Nat) + (lpS P en ws dp i.snd).b.len),
 (lpS P en ws dp i.snd).el.sub (0 : Nat) ((0 : Nat) + (lpS P en ws dp i.snd).el.len),
 (lpS P en ws dp i.snd).ar.sub (0 : Nat) ((0 : Nat) + (lpS P en ws dp i.snd).ar.len)]]).sub
 (0 : Nat) ((0 : Nat) + (1 : Nat))).len) *
 (288 : Nat) ≤
 (140737488355328 : Nat) ∧
 (0 : Nat) + (1 : Nat) ≤
 (D.l
 [[D.i (lpS P en ws dp i.snd).k, D.s (lpS P en ws dp i.snd).nm, D.s (lpS P en ws dp i.snd).tg,
 D.i (lpS P en ws dp i.snd).e.k, D.i (lpS P en ws dp i.snd).e.n, D.s (lpS P en ws dp i.snd).e.s,
 (lpS P en ws dp i.snd).e.d.sub (0 : Nat) ((0 : Nat) + (lpS P en ws dp i.snd).e.d.len),
 D.i (lpS P en ws dp i.snd).c.op, D.i (lpS P en ws dp i.snd).c.l.k, D.i (lpS P en ws dp i.snd).c.l.n,
 D.s (lpS P en ws dp i.snd).c.l.s,
 (lpS P en ws dp i.snd).c.l.d.sub (0 : Nat) ((0 : Nat) + (lpS P en ws dp i.snd).c.l.d.len),
 D.i (lpS P en ws dp i.snd).c.r.k, D.i (lpS P en ws dp i.snd).c.r.n, D.s (lpS P en ws dp i.snd).c.r.s,
 (lpS P en ws dp i.snd).c.r.d.sub (0 : Nat) ((0 : Nat) + (lpS P en ws dp i.snd).c.r.d.len),
 (lpS P en ws dp i.snd).b.sub (0 : Nat) ((0 : Nat) + (lpS P en ws dp i.snd).b.len),
 (lpS P en ws dp i.snd).el.sub (0 : Nat) ((0 : Nat) + (lpS P en ws dp i.snd).el.len),
 (lpS P en ws dp i.snd).ar.sub (0 : Nat) ((0 : Nat) + (lpS P en ws dp i.snd).ar.len)]]).len ∧
 ∃ (j : D × Rd),
 (rdOK ws j.snd.nx ∧
 seqA (stG ws) (stH P en ws dp) ws j.fst j.snd = smA P en ws dp (mR nx pa er) ∧
 j.fst.len + left ws j.snd ≤ (1000001 : Nat) ∧ nx ≤ j.snd.nx) ∧
 left ws j.snd < left ws i.snd ∧
 i.fst.len +
 ((D.l
 [[D.i (lpS P en ws dp i.snd).k, D.s (lpS P en ws dp i.snd).nm,
 D.s (lpS P en ws dp i.snd).tg, D.i (lpS P en ws dp i.snd).e.k,
 D.i (lpS P en ws dp i.snd).e.n, D.s (lpS P en ws dp i.snd).e.s,
 (lpS P en ws dp i.snd).e.d.sub (0 : Nat) ((0 : Nat) + (lpS P en ws dp i.snd).e.d.len),
 D.i (lpS P en ws dp i.snd).c.op, D.i (lpS P en ws dp i.snd).c.l.k,
 D.i (lpS P en ws dp i.snd).c.l.n, D.s (lpS P en ws dp i.snd).c.l.s,
 (lpS P en ws dp i.snd).c.l.d.sub (0 : Nat)
 ((0 : Nat) + (lpS P en ws dp i.snd).c.l.d.len),
 D.i (lpS P en ws dp i.snd).c.r.k, D.i (lpS P en ws dp i.snd).c.r.n,
 D.s (lpS P en ws dp i.snd).c.r.s,
 (lpS P en ws dp i.snd).c.r.d.sub (0 : Nat)
 ((0 : Nat) + (lpS P en ws dp i.snd).c.r.d.len),
 (lpS P en ws dp i.snd).b.sub (0 : Nat) ((0 : Nat) + (lpS P en ws dp i.snd).b.len),
 (lpS P en ws dp i.snd).el.sub (0 : Nat) ((0 : Nat) + (lpS P en ws dp i.snd).el.len),
 (lpS P en ws dp i.snd).ar.sub (0 : Nat)
 ((0 : Nat) + (lpS P en ws dp i.snd).ar.len)]]).sub
 (0 : Nat) ((0 : Nat) + (1 : Nat))).len =
 j.fst.len ∧
 dp = dp ∧
 ws.rows = ws.rows ∧
 (lpA P en ws dp i.snd).snd.nx = j.snd.nx ∧
 en = en ∧
 (lpA P en ws dp i.snd).snd.pa = j.snd.pa ∧
 (lpA P en ws dp i.snd).snd.er = j.snd.er ∧
 i.fst.rows ++
 List.drop (0 : Nat)
 (List.take ((0 : Nat) + (1 : Nat))
 [[D.i (lpS P en ws dp i.snd).k, D.s (lpS P en ws dp i.snd).nm,
 D.s (lpS P en ws dp i.snd).tg, D.i (lpS P en ws dp i.snd).e.k,
 D.i (lpS P en ws dp i.snd).e.n, D.s (lpS P en ws dp i.snd).e.s,
 (lpS P en ws dp i.snd).e.d.sub (0 : Nat)
 ((0 : Nat) + (lpS P en ws dp i.snd).e.d.len),
 D.i (lpS P en ws dp i.snd).c.op, D.i (lpS P en ws dp i.snd).c.l.k,
 D.i (lpS P en ws dp i.snd).c.l.n, D.s (lpS P en ws dp i.snd).c.l.s,
 (lpS P en ws dp i.snd).c.l.d.sub (0 : Nat)
 ((0 : Nat) + (lpS P en ws dp i.snd).c.l.d.len),
 D.i (lpS P en ws dp i.snd).c.r.k, D.i (lpS P en ws dp i.snd).c.r.n,
 D.s (lpS P en ws dp i.snd).c.r.s,
 (lpS P en ws dp i.snd).c.r.d.sub (0 : Nat)
 ((0 : Nat) + (lpS P en ws dp i.snd).c.r.d.len),
 (lpS P en ws dp i.snd).b.sub (0 : Nat)
 ((0 : Nat) + (lpS P en ws dp i.snd).b.len),
 (lpS P en ws dp i.snd).el.sub (0 : Nat)
 ((0 : Nat) + (lpS P en ws dp i.snd).el.len),
 (lpS P en ws dp i.snd).ar.sub (0 : Nat)
 ((0 : Nat) + (lpS P en ws dp i.snd).ar.len)]]) =
 j.fst.rows) ∧
 (((pkS ws i.snd.nx).toList == kwW.toList) = false →
 (((pkS ws i.snd.nx).toList == kwS.toList) = true →
 rdOK ws i.snd.nx ∧
 (0 : Nat) + (snE ws en i.snd).fst.d.len ≤ (snE ws en i.snd).fst.d.len ∧
 i.fst.len = i.fst.len ∧
 (i.fst.len +
 ((D.l
 [[D.i (4 : Int), D.s (nmS ws (snN ws en i.snd)), D.s (nmS ws (snT ws en i.snd)), D.i (snE ws en i.snd).fst.k,
 D.i (snE ws en i.snd).fst.n, D.s (snE ws en i.snd).fst.s,
 (snE ws en i.snd).fst.d.sub (0 : Nat) ((0 : Nat) + (snE ws en i.snd).fst.d.len), D.i (0 : Int),
 D.i (0 : Int), D.i (0 : Int), D.s ByteArray.empty, D.l [], D.i (0 : Int), D.i (0 : Int),
 D.s ByteArray.empty, D.l [], D.l [], D.l [], D.l []]]).sub
 (0 : Nat) ((0 : Nat) + (1 : Nat))).len) *
 (288 : Nat) ≤
 (140737488355328 : Nat) ∧
 (0 : Nat) + (1 : Nat) ≤
 (D.l
 [[D.i (4 : Int), D.s (nmS ws (snN ws en i.snd)), D.s (nmS ws (snT ws en i.snd)), D.i (snE ws en i.snd).fst.k,
 D.i (snE ws en i.snd).fst.n, D.s (snE ws en i.snd).fst.s,
 (snE ws en i.snd).fst.d.sub (0 : Nat) ((0 : Nat) + (snE ws en i.snd).fst.d.len), D.i (0 : Int), D.i (0 : Int),
 D.i (0 : Int), D.s ByteArray.empty, D.l [], D.i (0 : Int), D.i (0 : Int), D.s ByteArray.empty, D.l [], D.l [],
 D.l [], D.l []]]).len ∧
 ∃ (j : D × Rd),
 (rdOK ws j.snd.nx ∧
 seqA (stG ws) (stH P en ws dp) ws j.fst j.snd = smA P en ws dp (mR nx pa er) ∧
 j.fst.len + left ws j.snd ≤ (1000001 : Nat) ∧ nx ≤ j.snd.nx) ∧
 left ws j.snd < left ws i.snd ∧
 i.fst.len +
 ((D.l
 [[D.i (4 : Int), D.s (nmS ws (snN ws en i.snd)), D.s (nmS ws (snT ws en i.snd)),
 D.i (snE ws en i.snd).fst.k, D.i (snE ws en i.snd).fst.n, D.s (snE ws en i.snd).fst.s,
 (snE ws en i.snd).fst.d.sub (0 : Nat) ((0 : Nat) + (snE ws en i.snd).fst.d.len), D.i (0 : Int),
 D.i (0 : Int), D.i (0 : Int), D.s ByteArray.empty, D.l [], D.i (0 : Int), D.i (0 : Int),
 D.s ByteArray.empty, D.l [], D.l [], D.l [], D.l []]]).sub
 (0 : Nat) ((0 : Nat) + (1 : Nat))).len =
 j.fst.len ∧
 dp = dp ∧
 ws.rows = ws.rows ∧
 (snR ws en i.snd).nx = j.snd.nx ∧
 en = en ∧
 (snR ws en i.snd).pa = j.snd.pa ∧
 (snR ws en i.snd).er = j.snd.er ∧
 i.fst.rows ++
 List.drop (0 : Nat)
 (List.take ((0 : Nat) + (1 : Nat))
 [[D.i (4 : Int), D.s (nmS ws (snN ws en i.snd)), D.s (nmS ws (snT ws en i.snd)),
 D.i (snE ws en i.snd).fst.k, D.i (snE ws en i.snd).fst.n, D.s (snE ws en i.snd).fst.s,
 (snE ws en i.snd).fst.d.sub (0 : Nat) ((0 : Nat) + (snE ws en i.snd).fst.d.len),
 D.i (0 : Int), D.i (0 : Int), D.i (0 : Int), D.s ByteArray.empty, D.l [], D.i (0 : Int),
 D.i (0 : Int), D.s ByteArray.empty, D.l [], D.l [], D.l [], D.l []]]) =
 j.fst.rows) ∧
 (((pkS ws i.snd.nx).toList == kwS.toList) = false →
 (((pkS ws i.snd.nx).toList == kwR.toList) = true →
 rdOK ws i.snd.nx ∧
 dpOK ws i.snd dp ∧
 left ws i.snd < m + (1 : Nat) ∧
 i.snd.nx < (↑ws.len : Int) ∧
 (0 : Nat) + (rvS P en ws dp i.snd).e.d.len ≤ (rvS P en ws dp i.snd).e.d.len ∧
 (0 : Nat) + (rvS P en ws dp i.snd).c.l.d.len ≤ (rvS P en ws dp i.snd).c.l.d.len ∧
 (0 : Nat) + (rvS P en ws dp i.snd).c.r.d.len ≤ (rvS P en ws dp i.snd).c.r.d.len ∧
 (0 : Nat) + (rvS P en ws dp i.snd).b.len ≤ (rvS P en ws dp i.snd).b.len ∧
 (0 : Nat) + (rvS P en ws dp i.snd).el.len ≤ (rvS P en ws dp i.snd).el.len ∧
 (0 : Nat) + (rvS P en ws dp i.snd).ar.len ≤ (rvS P en ws dp i.snd).ar.len ∧
 i.fst.len = i.fst.len ∧
 (i.fst.len +
 ((D.l
 [[D.i (rvS P en ws dp i.snd).k, D.s (rvS P en ws dp i.snd).nm,
 D.s (rvS P en ws dp i.snd).tg, D.i (rvS P en ws dp i.snd).e.k,
 D.i (rvS P en ws dp i.snd).e.n, D.s (rvS P en ws dp i.snd).e.s,
 (rvS P en ws dp i.snd).e.d.sub (0 : Nat) ((0 : Nat) + (rvS P en ws dp i.snd).e.d.len),
 D.i (rvS P en ws dp i.snd).c.op, D.i (rvS P en ws dp i.snd).c.l.k,
 D.i (rvS P en ws dp i.snd).c.l.n, D.s (rvS P en ws dp i.snd).c.l.s,
 (rvS P en ws dp i.snd).c.l.d.sub (0 : Nat)
 ((0 : Nat) + (rvS P en ws dp i.snd).c.l.d.len),
 D.i (rvS P en ws dp i.snd).c.r.k, D.i (rvS P en ws dp i.snd).c.r.n,
 D.s (rvS P en ws dp i.snd).c.r.s,
 (rvS P en ws dp i.snd).c.r.d.sub (0 : Nat)
 ((0 : Nat) + (rvS P en ws dp i.snd).c.r.d.len),
 (rvS P en ws dp i.snd).b.sub (0 : Nat) ((0 : Nat) + (rvS P en ws dp i.snd).b.len),
 (rvS P en ws dp i.snd).el.sub (0 : Nat) ((0 : Nat) + (rvS P en ws dp i.snd).el.len),
 (rvS P en ws dp i.snd).ar.sub (0 : Nat)
 ((0 : Nat) + (rvS P en ws dp i.snd).ar.len)]]).sub
 (0 : Nat) ((0 : Nat) + (1 : Nat))).len) *
 (288 : Nat) ≤
 (140737488355328 : Nat) ∧
 (0 : Nat) + (1 : Nat) ≤
 (D.l
 [[D.i (rvS P en ws dp i.snd).k, D.s (rvS P en ws dp i.snd).nm, D.s (rvS P en ws dp i.snd).tg,
 D.i (rvS P en ws dp i.snd).e.k, D.i (rvS P en ws dp i.snd).e.n,
 D.s (rvS P en ws dp i.snd).e.s,
 (rvS P en ws dp i.snd).e.d.sub (0 : Nat) ((0 : Nat) + (rvS P en ws dp i.snd).e.d.len),
 D.i (rvS P en ws dp i.snd).c.op, D.i (rvS P en ws dp i.snd).c.l.k,
 D.i (rvS P en ws dp i.snd).c.l.n, D.s (rvS P en ws dp i.snd).c.l.s,
 (rvS P en ws dp i.snd).c.l.d.sub (0 : Nat) ((0 : Nat) + (rvS P en ws dp i.snd).c.l.d.len),
 D.i (rvS P en ws dp i.snd).c.r.k, D.i (rvS P en ws dp i.snd).c.r.n,
 D.s (rvS P en ws dp i.snd).c.r.s,
 (rvS P en ws dp i.snd).c.r.d.sub (0 : Nat) ((0 : Nat) + (rvS P en ws dp i.snd).c.r.d.len),
 (rvS P en ws dp i.snd).b.sub (0 : Nat) ((0 : Nat) + (rvS P en ws dp i.snd).b.len),
 (rvS P en ws dp i.snd).el.sub (0 : Nat) ((0 : Nat) + (rvS P en ws dp i.snd).el.len),
 (rvS P en ws dp i.snd).ar.sub (0 : Nat) ((0 : Nat) + (rvS P en ws dp i.snd).ar.len)]]).len ∧
 ∃ (j : D × Rd),
 (rdOK ws j.snd.nx ∧
 seqA (stG ws) (stH P en ws dp) ws j.fst j.snd = smA P en ws dp (mR nx pa er) ∧
 j.fst.len + left ws j.snd ≤ (1000001 : Nat) ∧ nx ≤ j.snd.nx) ∧
 left ws j.snd < left ws i.snd ∧
 i.fst.len +
 ((D.l
 [[D.i (rvS P en ws dp i.snd).k, D.s (rvS P en ws dp i.snd).nm,
 D.s (rvS P en ws dp i.snd).tg, D.i (rvS P en ws dp i.snd).e.k,
 D.i (rvS P en ws dp i.snd).e.n, D.s (rvS P en ws dp i.snd).e.s,
 (rvS P en ws dp i.snd).e.d.sub (0 : Nat)
 ((0 : Nat) + (rvS P en ws dp i.snd).e.d.len),
 D.i (rvS P en ws dp i.snd).c.op, D.i (rvS P en ws dp i.snd).c.l.k,
 D.i (rvS P en ws dp i.snd).c.l.n, D.s (rvS P en ws dp i.snd).c.l.s,
 (rvS P en ws dp i.snd).c.l.d.sub (0 : Nat)
 ((0 : Nat) + (rvS P en ws dp i.snd).c.l.d.len),
 D.i (rvS P en ws dp i.snd).c.r.k, D.i (rvS P en ws dp i.snd).c.r.n,
 D.s (rvS P en ws dp i.snd).c.r.s,
 (rvS P en ws dp i.snd).c.r.d.sub (0 : Nat)
 ((0 : Nat) + (rvS P en ws dp i.snd).c.r.d.len),
 (rvS P en ws dp i.snd).b.sub (0 : Nat)
 ((0 : Nat) + (rvS P en ws dp i.snd).b.len),
 (rvS P en ws dp i.snd).el.sub (0 : Nat)
 ((0 : Nat) + (rvS P en ws dp i.snd).el.len),
 (rvS P en ws dp i.snd).ar.sub (0 : Nat)
 ((0 : Nat) + (rvS P en ws dp i.snd).ar.len)]]).sub
 (0 : Nat) ((0 : Nat) + (1 : Nat))).len =
 j.fst.len ∧
 dp = dp ∧
 ws.rows = ws.rows ∧
 (rvR P en ws dp i.snd).nx = j.snd.nx ∧
 en = en ∧
 (rvR P en ws dp i.snd).pa = j.snd.pa ∧
 (rvR P en ws dp i.snd).er = j.snd.er ∧
 i.fst.rows ++
 List.drop (0 : Nat)
 (List.take ((0 : Nat) + (1 : Nat))
 [[D.i (rvS P en ws dp i.snd).k, D.s (rvS P en ws dp i.snd).nm,
 D.s (rvS P en ws dp i.snd).tg, D.i (rvS P en ws dp i.snd).e.k,
 D.i (rvS P en ws dp i.snd).e.n, D.s (rvS P en ws dp i.snd).e.s,
 (rvS P en ws dp i.snd).e.d.sub (0 : Nat)
 ((0 : Nat) + (rvS P en ws dp i.snd).e.d.len),
 D.i (rvS P en ws dp i.snd).c.op, D.i (rvS P en ws dp i.snd).c.l.k,
 D.i (rvS P en ws dp i.snd).c.l.n, D.s (rvS P en ws dp i.snd).c.l.s,
 (rvS P en ws dp i.snd).c.l.d.sub (0 : Nat)
 ((0 : Nat) + (rvS P en ws dp i.snd).c.l.d.len),
 D.i (rvS P en ws dp i.snd).c.r.k, D.i (rvS P en ws dp i.snd).c.r.n,
 D.s (rvS P en ws dp i.snd).c.r.s,
 (rvS P en ws dp i.snd).c.r.d.sub (0 : Nat)
 ((0 : Nat) + (rvS P en ws dp i.snd).c.r.d.len),
 (rvS P en ws dp i.snd).b.sub (0 : Nat)
 ((0 : Nat) + (rvS P en ws dp i.snd).b.len),
 (rvS P en ws dp i.snd).el.sub (0 : Nat)
 ((0 : Nat) + (rvS P en ws dp i.snd).el.len),
 (rvS P en ws dp i.snd).ar.sub (0 : Nat)
 ((0 : Nat) + (rvS P en ws dp i.snd).ar.len)]]) =
 j.fst.rows) ∧
 (((pkS ws i.snd.nx).toList == kwR.toList) = false →
 (((pkS ws i.snd.nx).toList ==
 kwA.toList) =
 true →
 rdOK ws i.snd.nx ∧
 (0 : Nat) + (atC ws en i.snd).l.d.len ≤ (atC ws en i.snd).l.d.len ∧
 (0 : Nat) + (atC ws en i.snd).r.d.len ≤ (atC ws en i.snd).r.d.len ∧
 i.fst.len = i.fst.len ∧
 (i.fst.len +
 ((D.l
 [[D.i (6 : Int), D.s ByteArray.empty, D.s ByteArray.empty, D.i (0 : Int), D.i (0 : Int),
 D.s ByteArray.empty, D.l [], D.i (atC ws en i.snd).op, D.i (atC ws en i.snd).l.k,
 D.i (atC ws en i.snd).l.n, D.s (atC ws en i.snd).l.s,
 (atC ws en i.snd).l.d.sub (0 : Nat) ((0 : Nat) + (atC ws en i.snd).l.d.len),
 D.i (atC ws en i.snd).r.k, D.i (atC ws en i.snd).r.n, D.s (atC ws en i.snd).r.s,
 (atC ws en i.snd).r.d.sub (0 : Nat) ((0 : Nat) + (atC ws en i.snd).r.d.len), D.l [], D.l [],
 D.l []]]).sub
 (0 : Nat) ((0 : Nat) + (1 : Nat))).len) *
 (288 : Nat) ≤
 (140737488355328 : Nat) ∧
 (0 : Nat) + (1 : Nat) ≤
 (D.l
 [[D.i (6 : Int), D.s ByteArray.empty, D.s ByteArray.empty, D.i (0 : Int), D.i (0 : Int),
 D.s ByteArray.empty, D.l [], D.i (atC ws en i.snd).op, D.i (atC ws en i.snd).l.k,
 D.i (atC ws en i.snd).l.n, D.s (atC ws en i.snd).l.s,
 (atC ws en i.snd).l.d.sub (0 : Nat) ((0 : Nat) + (atC ws en i.snd).l.d.len), D.i (atC ws en i.snd).r.k,
 D.i (atC ws en i.snd).r.n, D.s (atC ws en i.snd).r.s,
 (atC ws en i.snd).r.d.sub (0 : Nat) ((0 : Nat) + (atC ws en i.snd).r.d.len), D.l [], D.l [],
 D.l []]]).len ∧
 ∃ (j : D × Rd),
 (rdOK ws j.snd.nx ∧
 seqA (stG ws) (stH P en ws dp) ws j.fst j.snd = smA P en ws dp (mR nx pa er) ∧
 j.fst.len + left ws j.snd ≤ (1000001 : Nat) ∧ nx ≤ j.snd.nx) ∧
 left ws j.snd < left ws i.snd ∧
 i.fst.len +
 ((D.l
 [[D.i (6 : Int), D.s ByteArray.empty, D.s ByteArray.empty, D.i (0 : Int), D.i (0 : Int),
 D.s ByteArray.empty, D.l [], D.i (atC ws en i.snd).op, D.i (atC ws en i.snd).l.k,
 D.i (atC ws en i.snd).l.n, D.s (atC ws en i.snd).l.s,
 (atC ws en i.snd).l.d.sub (0 : Nat) ((0 : Nat) + (atC ws en i.snd).l.d.len),
 D.i (atC ws en i.snd).r.k, D.i (atC ws en i.snd).r.n, D.s (atC ws en i.snd).r.s,
 (atC ws en i.snd).r.d.sub (0 : Nat) ((0 : Nat) + (atC ws en i.snd).r.d.len), D.l [],
 D.l [], D.l []]]).sub
 (0 : Nat) ((0 : Nat) + (1 : Nat))).len =
 j.fst.len ∧
 dp = dp ∧
 ws.rows = ws.rows ∧
 (atR ws en i.snd).nx = j.snd.nx ∧
 en = en ∧
 (atR ws en i.snd).pa = j.snd.pa ∧
 (atR ws en i.snd).er = j.snd.er ∧
 i.fst.rows ++
 List.drop (0 : Nat)
 (List.take ((0 : Nat) + (1 : Nat))
 [[D.i (6 : Int), D.s ByteArray.empty, D.s ByteArray.empty, D.i (0 : Int),
 D.i (0 : Int), D.s ByteArray.empty, D.l [], D.i (atC ws en i.snd).op,
 D.i (atC ws en i.snd).l.k, D.i (atC ws en i.snd).l.n, D.s (atC ws en i.snd).l.s,
 (atC ws en i.snd).l.d.sub (0 : Nat) ((0 : Nat) + (atC ws en i.snd).l.d.len),
 D.i (atC ws en i.snd).r.k, D.i (atC ws en i.snd).r.n, D.s (atC ws en i.snd).r.s,
 (atC ws en i.snd).r.d.sub (0 : Nat) ((0 : Nat) + (atC ws en i.snd).r.d.len),
 D.l [], D.l [], D.l []]]) =
 j.fst.rows) ∧
 (((pkS ws i.snd.nx).toList ==
 kwA.toList) =
 false →
 (((pkS ws i.snd.nx).toList ==
 kwI.toList) =
 true →
 rdOK ws i.snd.nx ∧
 i.fst.len = i.fst.len ∧
 (i.fst.len +
 ((D.l
 [[D.i (7 : Int), D.s (nmS ws (exR ws en kwI i.snd)), D.s ByteArray.empty, D.i (0 : Int),
 D.i (0 : Int), D.s ByteArray.empty, D.l [], D.i (0 : Int), D.i (0 : Int), D.i (0 : Int),
 D.s ByteArray.empty, D.l [], D.i (0 : Int), D.i (0 : Int), D.s ByteArray.empty, D.l [], D.l [],
 D.l [], D.l []]]).sub
 (0 : Nat) ((0 : Nat) + (1 : Nat))).len) *
 (288 : Nat) ≤
 (140737488355328 : Nat) ∧
 (0 : Nat) + (1 : Nat) ≤
 (D.l
 [[D.i (7 : Int), D.s (nmS ws (exR ws en kwI i.snd)), D.s ByteArray.empty, D.i (0 : Int), D.i (0 : Int),
 D.s ByteArray.empty, D.l [], D.i (0 : Int), D.i (0 : Int), D.i (0 : Int), D.s ByteArray.empty, D.l [],
 D.i (0 : Int), D.i (0 : Int), D.s ByteArray.empty, D.l [], D.l [], D.l [], D.l []]]).len ∧
 ∃ (j : D × Rd),
 (rdOK ws j.snd.nx ∧
 seqA (stG ws) (stH P en ws dp) ws j.fst j.snd = smA P en ws dp (mR nx pa er) ∧
 j.fst.len + left ws j.snd ≤ (1000001 : Nat) ∧ nx ≤ j.snd.nx) ∧
 left ws j.snd < left ws i.snd ∧
 i.fst.len +
 ((D.l
 [[D.i (7 : Int), D.s (nmS ws (exR ws en kwI i.snd)), D.s ByteArray.empty, D.i (0 : Int),
 D.i (0 : Int), D.s ByteArray.empty, D.l [], D.i (0 : Int), D.i (0 : Int), D.i (0 : Int),
 D.s ByteArray.empty, D.l [], D.i (0 : Int), D.i (0 : Int), D.s ByteArray.empty, D.l [],
 D.l [], D.l [], D.l []]]).sub
 (0 : Nat) ((0 : Nat) + (1 : Nat))).len =
 j.fst.len ∧
 dp = dp ∧
 ws.rows = ws.rows ∧
 (inR ws en i.snd).nx = j.snd.nx ∧
 en = en ∧
 (inR ws en i.snd).pa = j.snd.pa ∧
 (inR ws en i.snd).er = j.snd.er ∧
 i.fst.rows ++
 List.drop (0 : Nat)
 (List.take ((0 : Nat) + (1 : Nat))
 [[D.i (7 : Int), D.s (nmS ws (exR ws en kwI i.snd)), D.s ByteArray.empty,
 D.i (0 : Int), D.i (0 : Int), D.s ByteArray.empty, D.l [], D.i (0 : Int),
 D.i (0 : Int), D.i (0 : Int), D.s ByteArray.empty, D.l [], D.i (0 : Int),
 D.i (0 : Int), D.s ByteArray.empty, D.l [], D.l [], D.l [], D.l []]]) =
 j.fst.rows) ∧
 (((pkS ws i.snd.nx).toList ==
 kwI.toList) =
 false →
 rdOK ws i.snd.nx ∧
 ((pkK ws i.snd.nx != (1 : Int)) = true →
 i.fst.len = (smA P en ws dp (mR nx pa er)).fst.len ∧
 ws.rows = ws.rows ∧
 i.snd.nx = (smA P en ws dp (mR nx pa er)).snd.nx ∧
 en = en ∧
 i.snd.pa = (smA P en ws dp (mR nx pa er)).snd.pa ∧
 i.snd.er = (smA P en ws dp (mR nx pa er)).snd.er ∧ i.fst.rows = (smA P en ws dp (mR nx pa er)).fst.rows) ∧
 ((pkK ws i.snd.nx != (1 : Int)) = false →
 rdOK ws i.snd.nx ∧
 (0 : Nat) + (asE ws en i.snd).fst.d.len ≤ (asE ws en i.snd).fst.d.len ∧
 i.fst.len = i.fst.len ∧
 (i.fst.len +
 ((D.l
 [[D.i (1 : Int), D.s (nmS ws i.snd), D.s ByteArray.empty, D.i (asE ws en i.snd).fst.k,
 D.i (asE ws en i.snd).fst.n, D.s (asE ws en i.snd).fst.s,
 (asE ws en i.snd).fst.d.sub (0 : Nat) ((0 : Nat) + (asE ws en i.snd).fst.d.len),
 D.i (0 : Int), D.i (0 : Int), D.i (0 : Int), D.s ByteArray.empty, D.l [], D.i (0 : Int),
 D.i (0 : Int), D.s ByteArray.empty, D.l [], D.l [], D.l [], D.l []]]).sub
 (0 : Nat) ((0 : Nat) + (1 : Nat))).len) *
 (288 : Nat) ≤
 (140737488355328 : Nat) ∧
 (0 : Nat) + (1 : Nat) ≤
 (D.l
 [[D.i (1 : Int), D.s (nmS ws i.snd), D.s ByteArray.empty, D.i (asE ws en i.snd).fst.k,
 D.i (asE ws en i.snd).fst.n, D.s (asE ws en i.snd).fst.s,
 (asE ws en i.snd).fst.d.sub (0 : Nat) ((0 : Nat) + (asE ws en i.snd).fst.d.len), D.i (0 : Int),
 D.i (0 : Int), D.i (0 : Int), D.s ByteArray.empty, D.l [], D.i (0 : Int), D.i (0 : Int),
 D.s ByteArray.empty, D.l [], D.l [], D.l [], D.l []]]).len ∧
 ∃ (j : D × Rd),
 (rdOK ws j.snd.nx ∧
 seqA (stG ws) (stH P en ws dp) ws j.fst j.snd = smA P en ws dp (mR nx pa er) ∧
 j.fst.len + left ws j.snd ≤ (1000001 : Nat) ∧ nx ≤ j.snd.nx) ∧
 left ws j.snd < left ws i.snd ∧
 i.fst.len +
 ((D.l
 [[D.i (1 : Int), D.s (nmS ws i.snd), D.s ByteArray.empty, D.i (asE ws en i.snd).fst.k,
 D.i (asE ws en i.snd).fst.n, D.s (asE ws en i.snd).fst.s,
 (asE ws en i.snd).fst.d.sub (0 : Nat) ((0 : Nat) + (asE ws en i.snd).fst.d.len),
 D.i (0 : Int), D.i (0 : Int), D.i (0 : Int), D.s ByteArray.empty, D.l [],
 D.i (0 : Int), D.i (0 : Int), D.s ByteArray.empty, D.l [], D.l [], D.l [],
 D.l []]]).sub
 (0 : Nat) ((0 : Nat) + (1 : Nat))).len =
 j.fst.len ∧
 dp = dp ∧
 ws.rows = ws.rows ∧
 (asR ws en i.snd).nx = j.snd.nx ∧
 en = en ∧
 (asR ws en i.snd).pa = j.snd.pa ∧
 (asR ws en i.snd).er = j.snd.er ∧
 i.fst.rows ++
 List.drop (0 : Nat)
 (List.take ((0 : Nat) + (1 : Nat))
 [[D.i (1 : Int), D.s (nmS ws i.snd), D.s ByteArray.empty,
 D.i (asE ws en i.snd).fst.k, D.i (asE ws en i.snd).fst.n,
 D.s (asE ws en i.snd).fst.s,
 (asE ws en i.snd).fst.d.sub (0 : Nat)
 ((0 : Nat) + (asE ws en i.snd).fst.d.len),
 D.i (0 : Int), D.i (0 : Int), D.i (0 : Int), D.s ByteArray.empty, D.l [],
 D.i (0 : Int), D.i (0 : Int), D.s ByteArray.empty, D.l [], D.l [], D.l [],
 D.l []]]) =
 j.fst.rows)))))))) (by kernel_rfl) ?_
    intro h hd hl
    refine ⟨⟨(.l [], mR nx pa er), ⟨h, rfl, (by show 0 + left ws (mR nx pa er) ≤ 1000001; have := (lf_lt (r := mR nx pa er) h).2; omega), Int.le_refl _⟩, (by (repeat' (with_reducible apply And.intro)) <;> first | with_reducible rfl | exact True.intro | with_reducible assumption | decide | assumption | rfl)⟩, ?_⟩
    rintro q ⟨h1, h2, h3, h4⟩
    have l1 := left_le (ws := ws) (r := mR nx pa er) (q := q.2) h4
    have hd2 : dpOK ws q.2 dp := ⟨hd.1, by have := hd.2; omega⟩
    have lm : left ws q.2 < m + 1 := Nat.lt_of_le_of_lt l1 hl
    have z : ∀ n : Nat, 0 + n ≤ n := fun n => Nat.le_of_eq (Nat.zero_add n)
    have zb : (q.1.len + 1) * 288 ≤ 140737488355328 := by omega
    have fin : ∀ (x : St) (r' : Rd), stF P en ws dp q.2 = (x, r') → stG ws q.2 = true → (rdOK ws r'.nx ∧ seqA (stG ws) (stH P en ws dp) ws (.l (q.1.rows ++ [x.row])) r' = smA P en ws dp (mR nx pa er) ∧ (D.l (q.1.rows ++ [x.row])).len + left ws r' ≤ 1000001 ∧ nx ≤ r'.nx) ∧ left ws r' < left ws q.2 := by
      intro x r' e hg
      obtain ⟨u1, u2⟩ := (st_sq (hPa en ws) dp).up q.2 h1 hg
      have hs := seq_step (st_sq (hPa en ws) dp) (d := q.1) h1 hg
      have e2 : stH P en ws dp q.2 = (x.row, r') := by unfold stH; rw [e]
      rw [e2] at u1 u2 hs
      have u3 := lt_left u1 h1 u2
      exact ⟨⟨u1, hs.trans h2, (by rw [ap_len]; have u4 : left ws r' < left ws q.2 := u3; omega), Int.le_trans h4 (Int.le_of_lt u2)⟩, u3⟩
    refine ⟨h1, fun k0 => ?_, fun k0 => ?_⟩
    · have k0 : acB ws q.2.nx kwF = true := k0
      have hF : stF P en ws dp q.2 = (cfS P en ws dp q.2, (cfB P en ws dp q.2).2) := if_pos k0
      obtain ⟨f1, f2⟩ := fin _ _ hF (by simp only [stG, k0, Bool.true_or, Bool.or_true])
      refine ⟨h1, hd2, lm, ac_lt (by decide) k0, z _, z _, z _, z _, z _, z _, rfl, zb, Nat.le_refl 1, (.l (q.1.rows ++ [St.row (cfS P en ws dp q.2)]), (cfB P en ws dp q.2).2), f1, f2, ?_⟩
      simp only [subAll]
      (repeat' (with_reducible apply And.intro)) <;> first | with_reducible rfl | exact True.intro | exact (ap_len _ _).symm | rfl
    have n0 : ¬ acB ws q.2.nx kwF = true := by rw [show acB ws q.2.nx kwF = false from k0]; decide
    refine ⟨fun k1 => ?_, fun k1 => ?_⟩
    · have k1 : acB ws q.2.nx kwW = true := k1
      have hF : stF P en ws dp q.2 = (lpS P en ws dp q.2, (lpA P en ws dp q.2).2) := (if_neg n0).trans (if_pos k1)
      obtain ⟨f1, f2⟩ := fin _ _ hF (by simp only [stG, k1, Bool.true_or, Bool.or_true])
      refine ⟨h1, hd2, lm, ac_lt (by decide) k1, z _, z _, z _, z _, z _, z _, rfl, zb, Nat.le_refl 1, (.l (q.1.rows ++ [St.row (lpS P en ws dp q.2)]), (lpA P en ws dp q.2).2), f1, f2, ?_⟩
      simp only [subAll]
      (repeat' (with_reducible apply And.intro)) <;> first | with_reducible rfl | exact True.intro | exact (ap_len _ _).symm | rfl
    have n1 : ¬ acB ws q.2.nx kwW = true := by rw [show acB ws q.2.nx kwW = false from k1]; decide
    refine ⟨fun k2 => ?_, fun k2 => ?_⟩
    · have k2 : acB ws q.2.nx kwS = true := k2
      have hF : stF P en ws dp q.2 = (snS ws en q.2, snR ws en q.2) := (if_neg n0).trans ((if_neg n1).trans (if_pos k2))
      obtain ⟨f1, f2⟩ := fin _ _ hF (by simp only [stG, k2, Bool.true_or, Bool.or_true])
      refine ⟨h1, z _, rfl, zb, Nat.le_refl 1, (.l (q.1.rows ++ [St.row (snS ws en q.2)]), snR ws en q.2), f1, f2, ?_⟩
      simp only [subAll]
      (repeat' (with_reducible apply And.intro)) <;> first | with_reducible rfl | exact True.intro | exact (ap_len _ _).symm | rfl
    have n2 : ¬ acB ws q.2.nx kwS = true := by rw [show acB ws q.2.nx kwS = false from k2]; decide
    refine ⟨fun k3 => ?_, fun k3 => ?_⟩
    · have k3 : acB ws q.2.nx kwR = true := k3
      have hF : stF P en ws dp q.2 = (rvS P en ws dp q.2, rvR P en ws dp q.2) := (if_neg n0).trans ((if_neg n1).trans ((if_neg n2).trans (if_pos k3)))
      obtain ⟨f1, f2⟩ := fin _ _ hF (by simp only [stG, k3, Bool.true_or, Bool.or_true])
      refine ⟨h1, hd2, lm, ac_lt (by decide) k3, z _, z _, z _, z _, z _, z _, rfl, zb, Nat.le_refl 1, (.l (q.1.rows ++ [St.row (rvS P en ws dp q.2)]), rvR P en ws dp q.2), f1, f2, ?_⟩
      simp only [subAll]
      (repeat' (with_reducible apply And.intro)) <;> first | with_reducible rfl | exact True.intro | exact (ap_len _ _).symm | rfl
    have n3 : ¬ acB ws q.2.nx kwR = true := by rw [show acB ws q.2.nx kwR = false from k3]; decide
    refine ⟨fun k4 => ?_, fun k4 => ?_⟩
    · have k4 : acB ws q.2.nx kwA = true := k4
      have hF : stF P en ws dp q.2 = (atS ws en q.2, atR ws en q.2) := (if_neg n0).trans ((if_neg n1).trans ((if_neg n2).trans ((if_neg n3).trans (if_pos k4))))
      obtain ⟨f1, f2⟩ := fin _ _ hF (by simp only [stG, k4, Bool.true_or, Bool.or_true])
      refine ⟨h1, z _, z _, rfl, zb, Nat.le_refl 1, (.l (q.1.rows ++ [St.row (atS ws en q.2)]), atR ws en q.2), f1, f2, ?_⟩
      simp only [subAll]
      (repeat' (with_reducible apply And.intro)) <;> first | with_reducible rfl | exact True.intro | exact (ap_len _ _).symm | rfl
    have n4 : ¬ acB ws q.2.nx kwA = true := by rw [show acB ws q.2.nx kwA = false from k4]; decide
    refine ⟨fun k5 => ?_, fun k5 => ?_⟩
    · have k5 : acB ws q.2.nx kwI = true := k5
      have hF : stF P en ws dp q.2 = (inS ws en q.2, inR ws en q.2) := (if_neg n0).trans ((if_neg n1).trans ((if_neg n2).trans ((if_neg n3).trans ((if_neg n4).trans (if_pos k5)))))
      obtain ⟨f1, f2⟩ := fin _ _ hF (by simp only [stG, k5, Bool.true_or, Bool.or_true])
      refine ⟨h1, rfl, zb, Nat.le_refl 1, (.l (q.1.rows ++ [St.row (inS ws en q.2)]), inR ws en q.2), f1, f2, ?_⟩
      simp only [subAll]
      (repeat' (with_reducible apply And.intro)) <;> first | with_reducible rfl | exact True.intro | exact (ap_len _ _).symm | rfl
    have n5 : ¬ acB ws q.2.nx kwI = true := by rw [show acB ws q.2.nx kwI = false from k5]; decide
    refine ⟨h1, fun hc => ?_, fun hc => ?_⟩
    · have hk : pkK ws q.2.nx ≠ 1 := by simpa using hc
      have hg : stG ws q.2 = false := by simp only [stG, Bool.eq_false_iff.2 n0, Bool.eq_false_iff.2 n1, Bool.eq_false_iff.2 n2, Bool.eq_false_iff.2 n3, Bool.eq_false_iff.2 n4, Bool.eq_false_iff.2 n5, decide_eq_false hk, Bool.or_false]
      have h2 : (q.1, q.2) = smA P en ws dp (mR nx pa er) := (seq_end hg).symm.trans h2
      rw [← h2]
      (repeat' (with_reducible apply And.intro)) <;> first | with_reducible rfl | exact True.intro | with_reducible assumption | decide | assumption | rfl
    · have hk : pkK ws q.2.nx = 1 := by simpa using hc
      have hF : stF P en ws dp q.2 = (asS ws en q.2, asR ws en q.2) := (if_neg n0).trans ((if_neg n1).trans ((if_neg n2).trans ((if_neg n3).trans ((if_neg n4).trans (if_neg n5)))))
      obtain ⟨f1, f2⟩ := fin _ _ hF (by simp only [stG, decide_eq_true hk, Bool.or_true])
      refine ⟨h1, z _, rfl, zb, Nat.le_refl 1, (.l (q.1.rows ++ [St.row (asS ws en q.2)]), asR ws en q.2), f1, f2, ?_⟩
      simp only [subAll]
      (repeat' (with_reducible apply And.intro)) <;> first | with_reducible rfl | exact True.intro | exact (ap_len _ _).symm | rfl
  · trivial
end Go.Proofs.Ytbhbjhejkamlnaa.Sx.Z
