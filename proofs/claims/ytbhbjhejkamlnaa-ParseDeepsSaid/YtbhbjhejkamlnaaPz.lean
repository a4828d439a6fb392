/-
  parse: recv.
-/
import Derived.Test.YtbhbjhejkamlnaaPy
namespace Go.Proofs.Ytbhbjhejkamlnaa.Sx
/-- The row that a struct's cell holds. -/
def cellIdP (s : St) (t j : Nat) : Nat := match look s.hp (idOf s t) with | some (.own _ l) => (match l[j]? with | some (.c (.osl _ id _ _)) => id | _ => 0) | _ => 0
end Go.Proofs.Ytbhbjhejkamlnaa.Sx
namespace Go.Proofs.Ytbhbjhejkamlnaa.Sx.Z
open Go.RowKit
/-- One thing behind the other, as long as there is one more. -/
def seqL (go : Rd → Bool) (F : Rd → List D × Rd) : Nat → D → Rd → D × Rd
  | 0, d, r => (d, r)
  | n + 1, d, r => if go r = true then seqL go F n (.l (d.rows ++ [(F r).1])) (F r).2 else (d, r)
def seqA (go : Rd → Bool) (F : Rd → List D × Rd) (ws d : D) (r : Rd) : D × Rd := seqL go F (left ws r) d r
structure SqOK (ws : D) (go : Rd → Bool) (F : Rd → List D × Rd) : Prop where
  up : ∀ r, rdOK ws r.nx → go r = true → rdOK ws (F r).2.nx ∧ r.nx < (F r).2.nx
theorem lt_left {ws : D} {r q : Rd} (h : rdOK ws q.nx) (h0 : rdOK ws r.nx) (hl : r.nx < q.nx) : left ws q < left ws r := by
  obtain ⟨a, b, c⟩ := h
  have := h0.1
  unfold left; omega
theorem seqL_end {go : Rd → Bool} {F : Rd → List D × Rd} {d : D} {r : Rd} (h : go r = false) : ∀ n, seqL go F n d r = (d, r)
  | 0 => rfl
  | n + 1 => if_neg (by rw [h]; decide)
theorem seqL_fuel {ws : D} {go : Rd → Bool} {F : Rd → List D × Rd} (hF : SqOK ws go F) : ∀ (n : Nat) (d : D) (r : Rd), rdOK ws r.nx → left ws r ≤ n → seqL go F n d r = seqL go F (left ws r) d r := by
  intro n
  induction n using Nat.strongRecOn with
  | ind n ih =>
    intro d r h hl
    cases hg : go r with
    | false => rw [seqL_end hg, seqL_end hg]
    | true =>
      obtain ⟨u1, u2⟩ := hF.up r h hg
      have u3 := lt_left u1 h u2
      cases n with
      | zero => omega
      | succ k =>
        obtain ⟨j, hj⟩ : ∃ j, left ws r = j + 1 := ⟨left ws r - 1, by omega⟩
        rw [hj, seqL, if_pos hg, seqL, if_pos hg, ih k (by omega) _ _ u1 (by omega), ih j (by omega) _ _ u1 (by omega)]
theorem seq_end {ws : D} {go : Rd → Bool} {F : Rd → List D × Rd} {d : D} {r : Rd} (h : go r = false) : seqA go F ws d r = (d, r) := seqL_end h _
theorem seq_step {ws : D} {go : Rd → Bool} {F : Rd → List D × Rd} (hF : SqOK ws go F) {d : D} {r : Rd} (h : rdOK ws r.nx) (hg : go r = true) : seqA go F ws (.l (d.rows ++ [(F r).1])) (F r).2 = seqA go F ws d r := by
  obtain ⟨u1, u2⟩ := hF.up r h hg
  have u3 := lt_left u1 h u2
  obtain ⟨j, hj⟩ : ∃ j, left ws r = j + 1 := ⟨left ws r - 1, by omega⟩
  unfold seqA
  rw [hj, seqL, if_pos hg, seqL_fuel hF j _ _ u1 (by omega)]
theorem seqL_up {ws : D} {go : Rd → Bool} {F : Rd → List D × Rd} (hF : SqOK ws go F) : ∀ (n : Nat) (d : D) (r : Rd), rdOK ws r.nx → rdOK ws (seqL go F n d r).2.nx ∧ r.nx ≤ (seqL go F n d r).2.nx
  | 0, d, r, h => ⟨h, Int.le_refl _⟩
  | n + 1, d, r, h => by
    cases hg : go r with
    | false =>
      rw [seqL_end hg]
      exact ⟨h, Int.le_refl _⟩
    | true =>
      obtain ⟨u1, u2⟩ := hF.up r h hg
      have := seqL_up hF n (.l (d.rows ++ [(F r).1])) (F r).2 u1
      rw [seqL, if_pos hg]
      exact ⟨this.1, by omega⟩
theorem seq_up {ws : D} {go : Rd → Bool} {F : Rd → List D × Rd} (hF : SqOK ws go F) (d : D) {r : Rd} (h : rdOK ws r.nx) : rdOK ws (seqA go F ws d r).2.nx ∧ r.nx ≤ (seqA go F ws d r).2.nx := seqL_up hF _ d r h
theorem ap_len (d : D) (x : List D) : (D.l (d.rows ++ [x])).len = d.len + 1 := by
  show (d.rows ++ [x]).length = d.rows.length + 1
  rw [List.length_append]; rfl
def amG (ws : D) (r : Rd) : Bool := decide (pkK ws r.nx = 1)
def amF (P : PB) (en : Int) (ws : D) (dp : Int) (r : Rd) : List D × Rd := ((amS P en ws dp r).row, (amA P en ws dp r).2)
def rvX (en : Int) (ws : D) (r : Rd) : Rd := exR ws en obB (nmR ws en (exR ws en kwR r))
def rvA (P : PB) (en : Int) (ws : D) (dp : Int) (r : Rd) : D × Rd := seqA (amG ws) (amF P en ws dp) ws (.l [(amS P en ws dp (rvX en ws r)).row]) (amA P en ws dp (rvX en ws r)).2
def rvS (P : PB) (en : Int) (ws : D) (dp : Int) (r : Rd) : St := ⟨5, nmS ws (exR ws en kwR r), ByteArray.empty, X00, C00, .l [], .l [], (rvA P en ws dp r).1⟩
def rvR (P : PB) (en : Int) (ws : D) (dp : Int) (r : Rd) : Rd := exR ws en cbB (rvA P en ws dp r).2
theorem am_up {P : PB} {ws : D} {en : Int} (hPa : ∀ dp, PbOK ws (P en ws dp)) {dp : Int} {r : Rd} (h : rdOK ws r.nx) : rdOK ws (amA P en ws dp r).2.nx ∧ r.nx ≤ (amA P en ws dp r).2.nx := by
  have a0 := nm_up en h
  have a1 := ex_up en (t := opB) a0.1 (by decide)
  have a2 := nm_up en a1.1
  have a3 := ex_up en (t := clB) a2.1 (by decide)
  obtain ⟨b1, b2, b3, b4, b5⟩ := blF_up hPa (dp := dp) a3.1
  exact ⟨b4, Int.le_trans a0.2 (Int.le_trans a1.2 (Int.le_trans a2.2 (Int.le_trans a3.2 b5)))⟩
theorem am_sq {P : PB} {ws : D} {en : Int} (hPa : ∀ dp, PbOK ws (P en ws dp)) (dp : Int) : SqOK ws (amG ws) (amF P en ws dp) := ⟨fun r h hg => by
  have hk : pkK ws r.nx = 1 := of_decide_eq_true hg
  have hl := pk_lt (ws := ws) (nx := r.nx) (by rw [hk]; decide)
  have e : nmR ws en r = gx r := if_pos hk
  have a0 := nm_up en h
  have a1 := ex_up en (t := opB) a0.1 (by decide)
  have a2 := nm_up en a1.1
  have a3 := ex_up en (t := clB) a2.1 (by decide)
  obtain ⟨b1, b2, b3, b4, b5⟩ := blF_up hPa (dp := dp) a3.1
  have e2 : (nmR ws en r).nx = r.nx + 1 := by rw [e]; rfl
  have h9 : (nmR ws en r).nx ≤ (amA P en ws dp r).2.nx := Int.le_trans a1.2 (Int.le_trans a2.2 (Int.le_trans a3.2 b5))
  exact ⟨b4, by show r.nx < (amA P en ws dp r).2.nx; omega⟩⟩
theorem rv_up {P : PB} {ws : D} {en : Int} (hPa : ∀ dp, PbOK ws (P en ws dp)) {dp : Int} {r : Rd} (h : rdOK ws r.nx) : rdOK ws (exR ws en kwR r).nx ∧ rdOK ws (nmR ws en (exR ws en kwR r)).nx ∧ rdOK ws (rvX en ws r).nx ∧ (exR ws en kwR r).nx ≤ (rvX en ws r).nx ∧ rdOK ws (rvA P en ws dp r).2.nx ∧ (rvX en ws r).nx ≤ (rvA P en ws dp r).2.nx ∧ rdOK ws (rvR P en ws dp r).nx ∧ (rvX en ws r).nx ≤ (rvR P en ws dp r).nx := by
  have a0 := ex_up en (t := kwR) h (by decide)
  have a1 := nm_up en a0.1
  have a2 := ex_up en (t := obB) a1.1 (by decide)
  have b := am_up hPa (dp := dp) a2.1
  have c := seq_up (am_sq hPa dp) (.l [(amS P en ws dp (rvX en ws r)).row]) b.1
  have d := ex_up en (t := cbB) c.1 (by decide)
  exact ⟨a0.1, a1.1, a2.1, Int.le_trans a1.2 a2.2, c.1, Int.le_trans b.2 c.2, d.1, Int.le_trans b.2 (Int.le_trans c.2 d.2)⟩
noncomputable def rcvS (P : PB) (m : Nat) : List Dat → Option (Eff × List Seg) := fun ds => match ds with
  | [.d ws, .i nx, .i en, .i pa, .i er, .i dp] => some ({ val := .one (.agg [.c (.int .i64 (.sym ((rvS P en ws dp (mR nx pa er))).k)), .c (.raw (.string ((rvS P en ws dp (mR nx pa er))).nm)), .c (.raw (.string ((rvS P en ws dp (mR nx pa er))).tg)), .c (.int .i64 (.sym (((rvS P en ws dp (mR nx pa er))).e).k)), .c (.int .i64 (.sym (((rvS P en ws dp (mR nx pa er))).e).n)), .c (.raw (.string (((rvS P en ws dp (mR nx pa er))).e).s)), .c (.osl 90 0 (.lit 0) (.sym (((rvS P en ws dp (mR nx pa er))).e).d.len)), .c (.int .i64 (.sym ((rvS P en ws dp (mR nx pa er))).c.op)), .c (.int .i64 (.sym (((rvS P en ws dp (mR nx pa er))).c.l).k)), .c (.int .i64 (.sym (((rvS P en ws dp (mR nx pa er))).c.l).n)), .c (.raw (.string (((rvS P en ws dp (mR nx pa er))).c.l).s)), .c (.osl 90 1 (.lit 0) (.sym (((rvS P en ws dp (mR nx pa er))).c.l).d.len)), .c (.int .i64 (.sym (((rvS P en ws dp (mR nx pa er))).c.r).k)), .c (.int .i64 (.sym (((rvS P en ws dp (mR nx pa er))).c.r).n)), .c (.raw (.string (((rvS P en ws dp (mR nx pa er))).c.r).s)), .c (.osl 90 2 (.lit 0) (.sym (((rvS P en ws dp (mR nx pa er))).c.r).d.len)), .c (.osl 95 3 (.lit 0) (.sym ((rvS P en ws dp (mR nx pa er))).b.len)), .c (.osl 95 4 (.lit 0) (.sym ((rvS P en ws dp (mR nx pa er))).el.len)), .c (.osl 135 5 (.lit 0) (.sym ((rvS P en ws dp (mR nx pa er))).ar.len))]), vc := [rdOK ws nx, dpOK ws (mR nx pa er) dp, left ws (mR nx pa er) < m + 1, (mR nx pa er).nx < ws.len], nw := [(0, .orow 90 ((rvS P en ws dp (mR nx pa er))).e.d), (1, .orow 90 ((rvS P en ws dp (mR nx pa er))).c.l.d), (2, .orow 90 ((rvS P en ws dp (mR nx pa er))).c.r.d), (3, .orow 95 ((rvS P en ws dp (mR nx pa er))).b), (4, .orow 95 ((rvS P en ws dp (mR nx pa er))).el), (5, .orow 135 ((rvS P en ws dp (mR nx pa er))).ar)] }, [.c (.rows 115 ws), .c (.int .i64 (.sym (((rvR P en ws dp (mR nx pa er))).nx))), .c (.int .i64 (.sym en)), .c (.int .i64 (.sym (((rvR P en ws dp (mR nx pa er))).pa))), .c (.int .i64 (.sym (((rvR P en ws dp (mR nx pa er))).er)))])
  | _ => none
noncomputable def rcvC (P : PB) (m : Nat) : Con := conM 64 [.c (.rows 115), .c (.int .i64), .c (.int .i64), .c (.int .i64), .c (.int .i64)] [.sc (.int .i64)] (rcvS P m)
theorem rcv_ok {P : PB} {m : Nat} (hP : ConOK Try.prog 72 (stmC P m)) (hPa : ∀ en ws dp, PbOK ws (P en ws dp)) : ConOK Try.prog 88 (rcvC P m) := by
  refine fn_obM tt_ok mixed Try.func88 rfl (fun _ _ => by kernel_rfl) (A := fun ds => ⟨fun _ => Cons.of [(100, (armC P m)), (67, pekC), (68, namC), (71, expC)], fun k => match k, ds with | 5, [.d ws, .i nx, .i en, .i pa, .i er, .i dp] => some { ι := D × Rd, pre := fun _ q => rdOK ws q.2.nx ∧ (seqA (amG ws) (amF P en ws dp) ws q.1 q.2 = rvA P en ws dp (mR nx pa er)) ∧ q.1.len + left ws q.2 ≤ 1000001 ∧ (rvX en ws (mR nx pa er)).nx ≤ q.2.nx, μ := fun q => left ws q.2, st := fun s q => famR s [] [0, 1, 4, 5] [(0, .own 64 ([.c (.rows 115 ws), .c (.int .i64 (.sym ((q.2).nx))), .c (.int .i64 (.sym en)), .c (.int .i64 (.sym ((q.2).pa))), .c (.int .i64 (.sym ((q.2).er)))])), (idOf s 5, .own 95 ([.c (.int .i64 (.sym 5)), .c (.raw (.string (nmS ws (exR ws en kwR (mR nx pa er))))), .c (.raw (.string ByteArray.empty)), .c (.int .i64 (.sym 0)), .c (.int .i64 (.sym 0)), .c (.raw (.string ByteArray.empty)), .c .nils, .c (.int .i64 (.sym 0)), .c (.int .i64 (.sym 0)), .c (.int .i64 (.sym 0)), .c (.raw (.string ByteArray.empty)), .c .nils, .c (.int .i64 (.sym 0)), .c (.int .i64 (.sym 0)), .c (.raw (.string ByteArray.empty)), .c .nils, .c .nils, .c .nils, .c (.osl 135 (cellIdP s 5 18) (.lit 0) (.sym (q.1.len)))])), (cellIdP s 5 18, .orow 135 (q.1))] [4] } | _, _ => none, fun _ => none⟩) (fun _ _ => (cons_cons (arm_ok hP hPa) (cons_cons pek_ok (cons_cons nam_ok (cons_cons exp_ok cons_nil))))) (by kernel_rfl) ?_
  intro ds
  unfold rcvS
  split
  · rename_i ws nx en pa er dp
    refine kmp (q := rdOK ws nx →
 dpOK ws (mR nx pa er) dp →
 left ws (mR nx pa er) < m + (1 : Nat) →
 (mR nx pa er).nx < (↑ws.len : Int) →
 rdOK ws nx ∧
 (0 : Nat) < kwR.size ∧
 rdOK ws (exR ws en kwR (mR nx pa er)).nx ∧
 rdOK ws (nmR ws en (exR ws en kwR (mR nx pa er))).nx ∧
 (0 : Nat) < obB.size ∧
 rdOK ws
 (exR ws en obB
 (nmR ws en (exR ws en kwR (mR nx pa er)))).nx ∧
 dqOK ws
 (exR ws en obB
 (nmR ws en (exR ws en kwR (mR nx pa er))))
 dp ∧
 left ws
 (exR ws en obB
 (nmR ws en (exR ws en kwR (mR nx pa er)))) <
 m ∧
 (0 : Nat) +
 (amS P en ws dp
 (exR ws en obB
 (nmR ws en (exR ws en kwR (mR nx pa er))))).b.len ≤
 (amS P en ws dp
 (exR ws en obB
 (nmR ws en (exR ws en kwR (mR nx pa er))))).b.len ∧
 ((0 : Nat) +
 ((D.l
 [[D.s
 (amS P en ws dp
 (exR ws en obB
 (nmR ws en
 (exR ws en kwR
 (mR nx pa er))))).tg,
 D.s
 (amS P en ws dp
 (exR ws en obB
 (nmR ws en
 (exR ws en kwR
 (mR nx pa er))))).vr,
 (amS P en ws dp
 (exR ws en obB
 (nmR ws en
 (exR ws en kwR
 (mR nx pa er))))).b.sub
 (0 : Nat)
 ((0 : Nat) +
 (amS P en ws dp
 (exR ws en obB
 (nmR ws en
 (exR ws en kwR
 (mR nx pa er))))).b.len)]]).sub
 (0 : Nat) ((0 : Nat) + (1 : Nat))).len) *
 (56 : Nat) ≤
 (140737488355328 : Nat) ∧
 (0 : Nat) + (1 : Nat) ≤
 (D.l
 [[D.s
 (amS P en ws dp
 (exR ws en obB
 (nmR ws en
 (exR ws en kwR (mR nx pa er))))).tg,
 D.s
 (amS P en ws dp
 (exR ws en obB
 (nmR ws en
 (exR ws en kwR (mR nx pa er))))).vr,
 (amS P en ws dp
 (exR ws en obB
 (nmR ws en
 (exR ws en kwR (mR nx pa er))))).b.sub
 (0 : Nat)
 ((0 : Nat) +
 (amS P en ws dp
 (exR ws en obB
 (nmR ws en
 (exR ws en kwR
 (mR nx pa er))))).b.len)]]).len ∧
 (∃ (i : D × Rd),
 (rdOK ws i.snd.nx ∧
 seqA (amG ws) (amF P en ws dp) ws i.fst i.snd = rvA P en ws dp (mR nx pa er) ∧
 i.fst.len + left ws i.snd ≤ (1000001 : Nat) ∧ (rvX en ws (mR nx pa er)).nx ≤ i.snd.nx) ∧
 dp = dp ∧
 ws.rows = ws.rows ∧
 (amA P en ws dp
 (exR ws en obB
 (nmR ws en
 (exR ws en kwR
 (mR nx pa er))))).snd.nx =
 i.snd.nx ∧
 en = en ∧
 (amA P en ws dp
 (exR ws en obB
 (nmR ws en
 (exR ws en kwR
 (mR nx pa er))))).snd.pa =
 i.snd.pa ∧
 (amA P en ws dp
 (exR ws en obB
 (nmR ws en
 (exR ws en kwR
 (mR nx pa er))))).snd.er =
 i.snd.er ∧
 (5 : Int) = (5 : Int) ∧
 Value.string
 (nmS ws
 (exR ws en kwR (mR nx pa er))) =
 Value.string (nmS ws (exR ws en kwR (mR nx pa er))) ∧
 Value.string ByteArray.empty = Value.string ByteArray.empty ∧
 (0 : Int) = (0 : Int) ∧
 (0 : Int) = (0 : Int) ∧
 Value.string ByteArray.empty = Value.string ByteArray.empty ∧
 (0 : Int) = (0 : Int) ∧
 (0 : Int) = (0 : Int) ∧
 (0 : Int) = (0 : Int) ∧
 Value.string ByteArray.empty = Value.string ByteArray.empty ∧
 (0 : Int) = (0 : Int) ∧
 (0 : Int) = (0 : Int) ∧
 Value.string ByteArray.empty = Value.string ByteArray.empty ∧
 (1 : Nat) = i.fst.len ∧
 [] ++
 List.drop (0 : Nat)
 (List.take ((0 : Nat) + (1 : Nat))
 [[D.s
 (amS P en ws dp
 (exR ws en obB
 (nmR ws en
 (exR ws en
 kwR
 (mR nx pa er))))).tg,
 D.s
 (amS P en ws dp
 (exR ws en obB
 (nmR ws en
 (exR ws en
 kwR
 (mR nx pa er))))).vr,
 (amS P en ws dp
 (exR ws en obB
 (nmR ws en
 (exR ws en
 kwR
 (mR nx pa er))))).b.sub
 (0 : Nat)
 ((0 : Nat) +
 (amS P en ws dp
 (exR ws en obB
 (nmR ws en
 (exR ws en
 kwR
 (mR nx pa er))))).b.len)]]) =
 i.fst.rows ∧
 (0 : Int) = (0 : Int) ∧
 Value.string ByteArray.empty = Value.string ByteArray.empty ∧
 Value.string ByteArray.empty = Value.string ByteArray.empty ∧
 (0 : Int) = (0 : Int) ∧
 (0 : Int) = (0 : Int) ∧
 Value.string ByteArray.empty = Value.string ByteArray.empty ∧
 (0 : Int) = (0 : Int) ∧
 (0 : Int) = (0 : Int) ∧
 (0 : Int) = (0 : Int) ∧
 Value.string ByteArray.empty = Value.string ByteArray.empty ∧
 (0 : Int) = (0 : Int) ∧
 (0 : Int) = (0 : Int) ∧
 Value.string ByteArray.empty =
 Value.string ByteArray.empty) ∧
 ∀ (i : D × Rd),
 rdOK ws i.snd.nx ∧
 seqA (amG ws) (amF P en ws dp) ws i.fst i.snd = rvA P en ws dp (mR nx pa er) ∧
 i.fst.len + left ws i.snd ≤ (1000001 : Nat) ∧ (rvX en ws (mR nx pa er)).nx ≤ i.snd.nx →
 rdOK ws i.snd.nx ∧
 ((pkK ws i.snd.nx == (1 : Int)) = true →
 rdOK ws i.snd.nx ∧
 dqOK ws i.snd dp ∧
 left ws i.snd < m ∧
 (0 : Nat) + (amS P en ws dp i.snd).b.len ≤ (amS P en ws dp i.snd).b.len ∧
 i.fst.len = i.fst.len ∧
 (i.fst.len +
 ((D.l
 [[D.s (amS P en ws dp i.snd).tg, D.s (amS P en ws dp i.snd).vr,
 (amS P en ws dp i.snd).b.sub (0 : Nat) ((0 : Nat) + (amS P en ws dp i.snd).b.len)]]).sub
 (0 : Nat) ((0 : Nat) + (1 : Nat))).len) *
 (56 : Nat) ≤
 (140737488355328 : Nat) ∧
 (0 : Nat) + (1 : Nat) ≤
 (D.l
 [[D.s (amS P en ws dp i.snd).tg, D.s (amS P en ws dp i.snd).vr,
 (amS P en ws dp i.snd).b.sub (0 : Nat) ((0 : Nat) + (amS P en ws dp i.snd).b.len)]]).len ∧
 ∃ (j : D × Rd),
 (rdOK ws j.snd.nx ∧
 seqA (amG ws) (amF P en ws dp) ws j.fst j.snd = rvA P en ws dp (mR nx pa er) ∧
 j.fst.len + left ws j.snd ≤ (1000001 : Nat) ∧ (rvX en ws (mR nx pa er)).nx ≤ j.snd.nx) ∧
 left ws j.snd < left ws i.snd ∧
 dp = dp ∧
 ws.rows = ws.rows ∧
 (amA P en ws dp i.snd).snd.nx = j.snd.nx ∧
 en = en ∧
 (amA P en ws dp i.snd).snd.pa = j.snd.pa ∧
 (amA P en ws dp i.snd).snd.er = j.snd.er ∧
 (5 : Int) = (5 : Int) ∧
 Value.string (nmS ws (exR ws en kwR (mR nx pa er))) =
 Value.string (nmS ws (exR ws en kwR (mR nx pa er))) ∧
 Value.string ByteArray.empty = Value.string ByteArray.empty ∧
 (0 : Int) = (0 : Int) ∧
 (0 : Int) = (0 : Int) ∧
 Value.string ByteArray.empty = Value.string ByteArray.empty ∧
 (0 : Int) = (0 : Int) ∧
 (0 : Int) = (0 : Int) ∧
 (0 : Int) = (0 : Int) ∧
 Value.string ByteArray.empty = Value.string ByteArray.empty ∧
 (0 : Int) = (0 : Int) ∧
 (0 : Int) = (0 : Int) ∧
 Value.string ByteArray.empty = Value.string ByteArray.empty ∧
 i.fst.len +
 ((D.l
 [[D.s (amS P en ws dp i.snd).tg,
 D.s (amS P en ws dp i.snd).vr,
 (amS P en ws dp i.snd).b.sub (0 : Nat)
 ((0 : Nat) +
 (amS P en ws dp i.snd).b.len)]]).sub
 (0 : Nat) ((0 : Nat) + (1 : Nat))).len =
 j.fst.len ∧
 i.fst.rows ++
 List.drop (0 : Nat)
 (List.take ((0 : Nat) + (1 : Nat))
 [[D.s (amS P en ws dp i.snd).tg,
 D.s (amS P en ws dp i.snd).vr,
 (amS P en ws dp i.snd).b.sub (0 : Nat)
 ((0 : Nat) +
 (amS P en ws dp i.snd).b.len)]]) =
 j.fst.rows ∧
 (0 : Int) = (0 : Int) ∧
 Value.string ByteArray.empty =
 Value.string ByteArray.empty ∧
 Value.string ByteArray.empty =
 Value.string ByteArray.empty ∧
 (0 : Int) = (0 : Int) ∧
 (0 : Int) = (0 : Int) ∧
 Value.string ByteArray.empty =
 Value.string ByteArray.empty ∧
 (0 : Int) = (0 : Int) ∧
 (0 : Int) = (0 : Int) ∧
 (0 : Int) = (0 : Int) ∧
 Value.string ByteArray.empty =
 Value.string ByteArray.empty ∧
 (0 : Int) = (0 : Int) ∧
 (0 : Int) = (0 : Int) ∧
 Value.string ByteArray.empty =
 Value.string
 ByteArray.empty) ∧
 ((pkK ws i.snd.nx == (1 : Int)) = false →
 rdOK ws i.snd.nx ∧
 (0 : Nat) < cbB.size ∧
 (5 : Int) = (rvS P en ws dp (mR nx pa er)).k ∧
 Value.string (nmS ws (exR ws en kwR (mR nx pa er))) = Value.string (rvS P en ws dp (mR nx pa er)).nm ∧
 Value.string ByteArray.empty = Value.string (rvS P en ws dp (mR nx pa er)).tg ∧
 (0 : Int) = (rvS P en ws dp (mR nx pa er)).e.k ∧
 (0 : Int) = (rvS P en ws dp (mR nx pa er)).e.n ∧
 Value.string ByteArray.empty = Value.string (rvS P en ws dp (mR nx pa er)).e.s ∧
 (rvS P en ws dp (mR nx pa er)).e.d.len = (0 : Nat) ∧
 (0 : Int) = (rvS P en ws dp (mR nx pa er)).c.op ∧
 (0 : Int) = (rvS P en ws dp (mR nx pa er)).c.l.k ∧
 (0 : Int) = (rvS P en ws dp (mR nx pa er)).c.l.n ∧
 Value.string ByteArray.empty = Value.string (rvS P en ws dp (mR nx pa er)).c.l.s ∧
 (rvS P en ws dp (mR nx pa er)).c.l.d.len = (0 : Nat) ∧
 (0 : Int) = (rvS P en ws dp (mR nx pa er)).c.r.k ∧
 (0 : Int) = (rvS P en ws dp (mR nx pa er)).c.r.n ∧
 Value.string ByteArray.empty = Value.string (rvS P en ws dp (mR nx pa er)).c.r.s ∧
 (rvS P en ws dp (mR nx pa er)).c.r.d.len = (0 : Nat) ∧
 (rvS P en ws dp (mR nx pa er)).b.len = (0 : Nat) ∧
 (rvS P en ws dp (mR nx pa er)).el.len = (0 : Nat) ∧
 i.fst.len = (rvS P en ws dp (mR nx pa er)).ar.len ∧
 ws.rows = ws.rows ∧
 (exR ws en cbB i.snd).nx =
 (rvR P en ws dp (mR nx pa er)).nx ∧
 en = en ∧
 (exR ws en cbB i.snd).pa =
 (rvR P en ws dp (mR nx pa er)).pa ∧
 (exR ws en cbB i.snd).er =
 (rvR P en ws dp (mR nx pa er)).er ∧
 ([] : List (List D)) = [] ∧
 ([] : List (List D)) = [] ∧
 ([] : List (List D)) = [] ∧
 ([] : List (List D)) = [] ∧
 ([] : List (List D)) = [] ∧
 i.fst.rows = (rvS P en ws dp (mR nx pa er)).ar.rows)) (by kernel_rfl) ?_
    intro h hd hl hn
    obtain ⟨a0, a1, a2, a3, a4, a5, a6, a7⟩ := rv_up (hPa en ws) (dp := dp) (r := mR nx pa er) h
    have q1 := dp_q hd h hn (Int.lt_of_lt_of_le (ex_lt en hn) a3)
    have q2 := q1.1
    have q3 : left ws (rvX en ws (mR nx pa er)) < m := by have := q1.2; omega
    have b := am_up (hPa en ws) (dp := dp) a2
    have l0 := (lf_lt b.1).2
    refine ⟨h, by decide, a0, a1, by decide, a2, q2, q3, Nat.le_of_eq (Nat.zero_add _), (by show (0 + 1) * 56 ≤ 140737488355328; decide), Nat.le_refl 1, ⟨(.l [(amS P en ws dp (rvX en ws (mR nx pa er))).row], (amA P en ws dp (rvX en ws (mR nx pa er))).2), ⟨b.1, rfl, (by show 1 + left ws (amA P en ws dp (rvX en ws (mR nx pa er))).2 ≤ 1000001; omega), b.2⟩, ?_⟩, ?_⟩
    · simp only [subAll]
      (repeat' (with_reducible apply And.intro)) <;> first | with_reducible rfl | exact True.intro | with_reducible assumption | decide | assumption | rfl
    rintro q ⟨h1, h2, h3, h4⟩
    have l1 := left_le (ws := ws) h4
    refine ⟨h1, fun hc => ?_, fun hc => ?_⟩
    · have hk : pkK ws q.2.nx = 1 := eq_of_beq hc
      have hg : amG ws q.2 = true := decide_eq_true hk
      obtain ⟨u1, u2⟩ := (am_sq (hPa en ws) dp).up q.2 h1 hg
      have u3 := lt_left u1 h1 u2
      have hs := seq_step (am_sq (hPa en ws) dp) (d := q.1) h1 hg
      refine ⟨h1, dq_le q2 h4, by omega, Nat.le_of_eq (Nat.zero_add _), rfl, (by show (q.1.len + 1) * 56 ≤ 140737488355328; omega), Nat.le_refl 1, (.l (q.1.rows ++ [(amS P en ws dp q.2).row]), (amA P en ws dp q.2).2), ⟨u1, hs.trans h2, ?_, Int.le_trans h4 (Int.le_of_lt u2)⟩, u3, ?_⟩
      · have u4 : left ws (amA P en ws dp q.2).2 < left ws q.2 := u3
        show (D.l (q.1.rows ++ [(amS P en ws dp q.2).row])).len + left ws (amA P en ws dp q.2).2 ≤ 1000001
        rw [ap_len]; omega
      · simp only [subAll]
        (repeat' (with_reducible apply And.intro)) <;> first | with_reducible rfl | exact True.intro | exact (ap_len _ _).symm | rfl
    · have hk : pkK ws q.2.nx ≠ 1 := ne_of_beq_false hc
      have hg : amG ws q.2 = false := decide_eq_false hk
      have h2 : (q.1, q.2) = rvA P en ws dp (mR nx pa er) := (seq_end hg).symm.trans h2
      simp only [rvS, rvR, ← h2]
      (repeat' (with_reducible apply And.intro)) <;> first | with_reducible rfl | exact True.intro | with_reducible assumption | decide | assumption | rfl
  · trivial
end Go.Proofs.Ytbhbjhejkamlnaa.Sx.Z
