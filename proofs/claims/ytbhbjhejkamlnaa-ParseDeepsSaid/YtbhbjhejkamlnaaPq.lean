/-
  parse: the reader's words.
-/
import Derived.Test.YtbhbjhejkamlnaaTt
import Derived.Test.YtbhbjhejkamlnaaSxWb
namespace Go.Proofs.Ytbhbjhejkamlnaa.Sx.Z
open Go.RowKit
def rdOK (ws : D) (nx : Int) : Prop := 0 ≤ nx ∧ nx ≤ ws.len ∧ ws.len ≤ 1000000
def pkK (ws : D) (nx : Int) : Int := if nx < ws.len then (ws.el nx.toNat 0).toI else 0
def pkS (ws : D) (nx : Int) : ByteArray := if nx < ws.len then (ws.el nx.toNat 1).toS else ByteArray.empty
def pkN (ws : D) (nx : Int) : Int := if nx < ws.len then (ws.el nx.toNat 2).toI else 0
def pkA (ws : D) (nx en : Int) : Int := if nx < ws.len then (ws.el nx.toNat 3).toI else en
def acB (ws : D) (nx : Int) (t : ByteArray) : Bool := (pkS ws nx).toList == t.toList
structure Rd where
  nx : Int
  pa : Int
  er : Int
def mR (nx pa er : Int) : Rd := ⟨nx, pa, er⟩
def fl (ws : D) (en e : Int) (r : Rd) : Rd := if r.er = 0 then ⟨ws.len, pkA ws r.nx en, e⟩ else ⟨ws.len, r.pa, r.er⟩
def gx (r : Rd) : Rd := ⟨r.nx + 1, r.pa, r.er⟩
def acR (ws : D) (t : ByteArray) (r : Rd) : Rd := if acB ws r.nx t = true then gx r else r
def exR (ws : D) (en : Int) (t : ByteArray) (r : Rd) : Rd := if acB ws r.nx t = true then gx r else fl ws en 5 r
def neR (ws : D) (en : Int) (t : ByteArray) (dp : Int) (r : Rd) : Rd := if acB ws r.nx t = true ∧ 24 ≤ dp then fl ws en 6 r else exR ws en t r
def nmR (ws : D) (en : Int) (r : Rd) : Rd := if pkK ws r.nx = 1 then gx r else fl ws en 5 r
def nmS (ws : D) (r : Rd) : ByteArray := if pkK ws r.nx = 1 then pkS ws r.nx else ByteArray.empty
def nuR (ws : D) (en : Int) (r : Rd) : Rd := if pkK ws r.nx = 2 then gx r else fl ws en 5 r
def nuN (ws : D) (r : Rd) : Int := if pkK ws r.nx = 2 then pkN ws r.nx else 0
def fiR (ws : D) (en : Int) (r : Rd) : Rd := if r.nx < ws.len then fl ws en 5 r else r
theorem acR_no {ws : D} {t : ByteArray} {r : Rd} (h : acB ws r.nx t = false) : acR ws t r = r := if_neg (by rw [h]; decide)
theorem acR_yes {ws : D} {t : ByteArray} {r : Rd} (h : acB ws r.nx t = true) : acR ws t r = gx r := if_pos h
theorem exR_no {ws : D} {en : Int} {t : ByteArray} {r : Rd} (h : acB ws r.nx t = false) : exR ws en t r = fl ws en 5 r := if_neg (by rw [h]; decide)
theorem exR_yes {ws : D} {en : Int} {t : ByteArray} {r : Rd} (h : acB ws r.nx t = true) : exR ws en t r = gx r := if_pos h
theorem pk_lt {ws : D} {nx : Int} (h : pkK ws nx ≠ 0) : nx < ws.len := by
  apply Decidable.byContradiction
  intro hn
  unfold pkK at h
  rw [if_neg hn] at h
  exact h rfl
theorem nx1 {ws : D} {nx : Int} (h : rdOK ws nx) (h2 : nx < ws.len) : IntKind.i64.wrap (nx + 1) = nx + 1 := by
  obtain ⟨a, b, c⟩ := h
  rw [IntWalk.i64_in _ (by omega)]
theorem ac_lt {ws : D} {nx : Int} {t : ByteArray} (ht : 0 < t.size) (h : acB ws nx t = true) : nx < ws.len := by
  apply Decidable.byContradiction
  intro hn
  unfold acB pkS at h
  rw [if_neg hn] at h
  have : t.toList = [] := (eq_of_beq h).symm.trans (by rw [ByteArray.toList_eq]; rfl)
  have h2 : t.data.toList = [] := by rw [ByteArray.toList_eq] at this; exact this
  have h3 : t.data.toList.length = t.size := Array.length_toList
  rw [h2] at h3
  have : (0 : Nat) = t.size := h3
  omega
noncomputable def pekS : List Dat → Option (Eff × List Seg) := fun ds => match ds with
  | [.d ws, .i nx, .i en, .i pa, .i er] => some ({ val := .one (.agg [.c (.int .i64 (.sym (pkK ws nx))), .c (.raw (.string (pkS ws nx))), .c (.int .i64 (.sym (pkN ws nx))), .c (.int .i64 (.sym (pkA ws nx en)))]), vc := [rdOK ws nx] }, [.c (.rows 115 ws), .c (.int .i64 (.sym (nx))), .c (.int .i64 (.sym en)), .c (.int .i64 (.sym (pa))), .c (.int .i64 (.sym (er)))])
  | _ => none
noncomputable def pekC : Con := conM 64 [.c (.rows 115), .c (.int .i64), .c (.int .i64), .c (.int .i64), .c (.int .i64)] [] pekS
theorem pek_ok : ConOK Try.prog 67 pekC := by
  refine fn_obM tt_ok mixed Try.func67 rfl (fun _ _ => by kernel_rfl) (A := fun ds => ⟨fun _ => Cons.of [], fun _ => none, fun _ => none⟩) (fun _ _ => cons_nil) (by kernel_rfl) ?_
  intro ds
  unfold pekS
  split
  · rename_i ws nx en pa er
    refine kmp (q := rdOK ws nx →
 (decide (nx < (↑ws.len : Int)) = true →
 ((0 : Int) ≤ nx ∧ nx < (↑ws.len : Int)) ∧
 (ws.el nx.toNat (0 : Nat)).toI = pkK ws nx ∧
 Value.string (ws.el nx.toNat ((0 : Nat) + (1 : Nat))).toS = Value.string (pkS ws nx) ∧
 (ws.el nx.toNat ((0 : Nat) + (1 : Nat) + (1 : Nat))).toI = pkN ws nx ∧
 (ws.el nx.toNat ((0 : Nat) + (1 : Nat) + (1 : Nat) + (1 : Nat))).toI = pkA ws nx en ∧ ws.rows = ws.rows ∧ nx = nx ∧ en = en ∧ pa = pa ∧ er = er) ∧
 (decide (nx < (↑ws.len : Int)) = false →
 (0 : Int) = pkK ws nx ∧
 Value.string ByteArray.empty = Value.string (pkS ws nx) ∧
 (0 : Int) = pkN ws nx ∧ en = pkA ws nx en ∧ ws.rows = ws.rows ∧ nx = nx ∧ en = en ∧ pa = pa ∧ er = er)) (by kernel_rfl) ?_
    rintro ⟨h0, h1, h2⟩
    unfold pkK pkS pkN pkA
    refine ⟨fun h => ?_, fun h => ?_⟩
    · have h := of_decide_eq_true h
      simp only [if_pos h]
      (repeat' (with_reducible apply And.intro)) <;> first | with_reducible rfl | exact True.intro | assumption | (symm; assumption) | rfl
    · have h := of_decide_eq_false h
      simp only [if_neg h]
      (repeat' (with_reducible apply And.intro)) <;> first | with_reducible rfl | exact True.intro | assumption | (symm; assumption) | rfl
  · trivial
noncomputable def falS : List Dat → Option (Eff × List Seg) := fun ds => match ds with
  | [.d ws, .i nx, .i en, .i pa, .i er, .i e] => some ({ val := .tup [], vc := [rdOK ws nx] }, [.c (.rows 115 ws), .c (.int .i64 (.sym ((fl ws en e (mR nx pa er)).nx))), .c (.int .i64 (.sym en)), .c (.int .i64 (.sym ((fl ws en e (mR nx pa er)).pa))), .c (.int .i64 (.sym ((fl ws en e (mR nx pa er)).er)))])
  | _ => none
noncomputable def falC : Con := conM 64 [.c (.rows 115), .c (.int .i64), .c (.int .i64), .c (.int .i64), .c (.int .i64)] [.sc (.int .i64)] falS
theorem fal_ok : ConOK Try.prog 73 falC := by
  refine fn_obM tt_ok mixed Try.func73 rfl (fun _ _ => by kernel_rfl) (A := fun ds => ⟨fun _ => Cons.of [(67, pekC)], fun _ => none, fun _ => none⟩) (fun _ _ => (cons_cons pek_ok cons_nil)) (by kernel_rfl) ?_
  intro ds
  unfold falS
  split
  · rename_i ws nx en pa er e
    refine kmp (q := rdOK ws nx →
 ((er == (0 : Int)) = true →
 rdOK ws nx ∧
 ws.rows = ws.rows ∧
 (↑ws.len : Int) = (fl ws en e (mR nx pa er)).nx ∧ en = en ∧ pkA ws nx en = (fl ws en e (mR nx pa er)).pa ∧ e = (fl ws en e (mR nx pa er)).er) ∧
 ((er == (0 : Int)) = false →
 ws.rows = ws.rows ∧ (↑ws.len : Int) = (fl ws en e (mR nx pa er)).nx ∧ en = en ∧ pa = (fl ws en e (mR nx pa er)).pa ∧ er = (fl ws en e (mR nx pa er)).er)) (by kernel_rfl) ?_
    intro h
    unfold fl mR
    refine ⟨fun h0 => ?_, fun h0 => ?_⟩
    · rw [if_pos (eq_of_beq h0)]
      (repeat' (with_reducible apply And.intro)) <;> first | with_reducible rfl | exact True.intro | assumption | (symm; assumption) | rfl
    · rw [if_neg (ne_of_beq_false h0)]
      (repeat' (with_reducible apply And.intro)) <;> first | with_reducible rfl | exact True.intro | assumption | (symm; assumption) | rfl
  · trivial
noncomputable def accS : List Dat → Option (Eff × List Seg) := fun ds => match ds with
  | [.d ws, .i nx, .i en, .i pa, .i er, .s t] => some ({ val := .one (.sc (.bool (.sym (acB ws nx t)))), vc := [rdOK ws nx, 0 < t.size] }, [.c (.rows 115 ws), .c (.int .i64 (.sym ((acR ws t (mR nx pa er)).nx))), .c (.int .i64 (.sym en)), .c (.int .i64 (.sym ((acR ws t (mR nx pa er)).pa))), .c (.int .i64 (.sym ((acR ws t (mR nx pa er)).er)))])
  | _ => none
noncomputable def accC : Con := conM 64 [.c (.rows 115), .c (.int .i64), .c (.int .i64), .c (.int .i64), .c (.int .i64)] [.sc .str] accS
theorem acc_ok : ConOK Try.prog 37 accC := by
  refine fn_obM tt_ok mixed Try.func37 rfl (fun _ _ => by kernel_rfl) (A := fun ds => ⟨fun _ => Cons.of [(67, pekC)], fun _ => none, fun _ => none⟩) (fun _ _ => (cons_cons pek_ok cons_nil)) (by kernel_rfl) ?_
  intro ds
  unfold accS
  split
  · rename_i ws nx en pa er t
    refine kmp (q := rdOK ws nx →
 (0 : Nat) < t.size →
 rdOK ws nx ∧
 ((!(pkS ws nx).toList == t.toList) = true →
 false = acB ws nx t ∧
 ws.rows = ws.rows ∧ nx = (acR ws t (mR nx pa er)).nx ∧ en = en ∧ pa = (acR ws t (mR nx pa er)).pa ∧ er = (acR ws t (mR nx pa er)).er) ∧
 ((!(pkS ws nx).toList == t.toList) = false →
 true = acB ws nx t ∧
 ws.rows = ws.rows ∧
 IntKind.i64.wrap (nx + (1 : Int)) = (acR ws t (mR nx pa er)).nx ∧ en = en ∧ pa = (acR ws t (mR nx pa er)).pa ∧ er = (acR ws t (mR nx pa er)).er)) (by kernel_rfl) ?_
    intro h ht
    refine ⟨h, fun hc => ?_, fun hc => ?_⟩
    · have hc : acB ws nx t = false := by simpa [acB] using hc
      unfold acR
      rw [show acB ws (mR nx pa er).nx t = false from hc]
      (repeat' (with_reducible apply And.intro)) <;> first | with_reducible rfl | exact True.intro | assumption | (symm; assumption) | rfl
    · have hc : acB ws nx t = true := by simpa [acB] using hc
      unfold acR
      rw [nx1 h (ac_lt ht hc), if_pos (show acB ws (mR nx pa er).nx t = true from hc)]
      (repeat' (with_reducible apply And.intro)) <;> first | with_reducible rfl | exact True.intro | assumption | (symm; assumption) | rfl
  · trivial
noncomputable def expS : List Dat → Option (Eff × List Seg) := fun ds => match ds with
  | [.d ws, .i nx, .i en, .i pa, .i er, .s t] => some ({ val := .tup [], vc := [rdOK ws nx, 0 < t.size] }, [.c (.rows 115 ws), .c (.int .i64 (.sym ((exR ws en t (mR nx pa er)).nx))), .c (.int .i64 (.sym en)), .c (.int .i64 (.sym ((exR ws en t (mR nx pa er)).pa))), .c (.int .i64 (.sym ((exR ws en t (mR nx pa er)).er)))])
  | _ => none
noncomputable def expC : Con := conM 64 [.c (.rows 115), .c (.int .i64), .c (.int .i64), .c (.int .i64), .c (.int .i64)] [.sc .str] expS
theorem exp_ok : ConOK Try.prog 71 expC := by
  refine fn_obM tt_ok mixed Try.func71 rfl (fun _ _ => by kernel_rfl) (A := fun ds => ⟨fun _ => Cons.of [(37, accC), (73, falC)], fun _ => none, fun _ => none⟩) (fun _ _ => (cons_cons acc_ok (cons_cons fal_ok cons_nil))) (by kernel_rfl) ?_
  intro ds
  unfold expS
  split
  · rename_i ws nx en pa er t
    refine kmp (q := rdOK ws nx →
 (0 : Nat) < t.size →
 rdOK ws nx ∧
 (0 : Nat) < t.size ∧
 ((!acB ws nx t) = true →
 rdOK ws (acR ws t (mR nx pa er)).nx ∧
 ws.rows = ws.rows ∧
 (fl ws en (5 : Int) (mR (acR ws t (mR nx pa er)).nx (acR ws t (mR nx pa er)).pa (acR ws t (mR nx pa er)).er)).nx =
 (exR ws en t (mR nx pa er)).nx ∧
 en = en ∧
 (fl ws en (5 : Int) (mR (acR ws t (mR nx pa er)).nx (acR ws t (mR nx pa er)).pa (acR ws t (mR nx pa er)).er)).pa =
 (exR ws en t (mR nx pa er)).pa ∧
 (fl ws en (5 : Int) (mR (acR ws t (mR nx pa er)).nx (acR ws t (mR nx pa er)).pa (acR ws t (mR nx pa er)).er)).er =
 (exR ws en t (mR nx pa er)).er) ∧
 ((!acB ws nx t) = false →
 ws.rows = ws.rows ∧
 (acR ws t (mR nx pa er)).nx = (exR ws en t (mR nx pa er)).nx ∧
 en = en ∧ (acR ws t (mR nx pa er)).pa = (exR ws en t (mR nx pa er)).pa ∧ (acR ws t (mR nx pa er)).er = (exR ws en t (mR nx pa er)).er)) (by kernel_rfl) ?_
    intro h ht
    refine ⟨h, ht, fun hc => ?_, fun hc => ?_⟩
    · have hc : acB ws nx t = false := by simpa using hc
      rw [acR_no (r := mR nx pa er) hc, exR_no (r := mR nx pa er) hc]
      (repeat' (with_reducible apply And.intro)) <;> first | with_reducible rfl | exact True.intro | assumption | (symm; assumption) | rfl
    · have hc : acB ws nx t = true := by simpa using hc
      rw [acR_yes (r := mR nx pa er) hc, exR_yes (r := mR nx pa er) hc]
      (repeat' (with_reducible apply And.intro)) <;> first | with_reducible rfl | exact True.intro | assumption | (symm; assumption) | rfl
  · trivial
noncomputable def nstS : List Dat → Option (Eff × List Seg) := fun ds => match ds with
  | [.d ws, .i nx, .i en, .i pa, .i er, .s t, .i dp] => some ({ val := .tup [], vc := [rdOK ws nx, 0 < t.size] }, [.c (.rows 115 ws), .c (.int .i64 (.sym ((neR ws en t dp (mR nx pa er)).nx))), .c (.int .i64 (.sym en)), .c (.int .i64 (.sym ((neR ws en t dp (mR nx pa er)).pa))), .c (.int .i64 (.sym ((neR ws en t dp (mR nx pa er)).er)))])
  | _ => none
noncomputable def nstC : Con := conM 64 [.c (.rows 115), .c (.int .i64), .c (.int .i64), .c (.int .i64), .c (.int .i64)] [.sc .str, .sc (.int .i64)] nstS
theorem nst_ok : ConOK Try.prog 104 nstC := by
  refine fn_obM tt_ok mixed Try.func104 rfl (fun _ _ => by kernel_rfl) (A := fun ds => ⟨fun _ => Cons.of [(67, pekC), (71, expC), (73, falC)], fun _ => none, fun _ => none⟩) (fun _ _ => (cons_cons pek_ok (cons_cons exp_ok (cons_cons fal_ok cons_nil)))) (by kernel_rfl) ?_
  intro ds
  unfold nstS
  split
  · rename_i ws nx en pa er t dp
    refine kmp (q := rdOK ws nx →
 (0 : Nat) < t.size →
 rdOK ws nx ∧
 (((pkS ws nx).toList == t.toList && decide (dp ≥ (24 : Int))) = true →
 rdOK ws nx ∧
 ws.rows = ws.rows ∧
 (fl ws en (6 : Int) (mR nx pa er)).nx = (neR ws en t dp (mR nx pa er)).nx ∧
 en = en ∧
 (fl ws en (6 : Int) (mR nx pa er)).pa = (neR ws en t dp (mR nx pa er)).pa ∧
 (fl ws en (6 : Int) (mR nx pa er)).er = (neR ws en t dp (mR nx pa er)).er) ∧
 (((pkS ws nx).toList == t.toList && decide (dp ≥ (24 : Int))) = false →
 rdOK ws nx ∧
 (0 : Nat) < t.size ∧
 ws.rows = ws.rows ∧
 (exR ws en t (mR nx pa er)).nx = (neR ws en t dp (mR nx pa er)).nx ∧
 en = en ∧
 (exR ws en t (mR nx pa er)).pa = (neR ws en t dp (mR nx pa er)).pa ∧ (exR ws en t (mR nx pa er)).er = (neR ws en t dp (mR nx pa er)).er)) (by kernel_rfl) ?_
    intro h ht
    refine ⟨h, fun hc => ?_, fun hc => ?_⟩
    · have hc : acB ws nx t = true ∧ 24 ≤ dp := by
        have : (acB ws nx t && decide (dp ≥ 24)) = true := hc
        simpa using this
      have e : neR ws en t dp (mR nx pa er) = fl ws en 6 (mR nx pa er) := if_pos hc
      rw [e]
      (repeat' (with_reducible apply And.intro)) <;> first | with_reducible rfl | exact True.intro | assumption | (symm; assumption) | rfl
    · have hc : ¬ (acB ws nx t = true ∧ 24 ≤ dp) := by
        have : (acB ws nx t && decide (dp ≥ 24)) = false := hc
        intro hx
        rw [hx.1, decide_eq_true (show dp ≥ 24 from hx.2)] at this
        cases this
      have e : neR ws en t dp (mR nx pa er) = exR ws en t (mR nx pa er) := if_neg hc
      rw [e]
      (repeat' (with_reducible apply And.intro)) <;> first | with_reducible rfl | exact True.intro | assumption | (symm; assumption) | rfl
  · trivial
noncomputable def namS : List Dat → Option (Eff × List Seg) := fun ds => match ds with
  | [.d ws, .i nx, .i en, .i pa, .i er] => some ({ val := .one (.sc (.raw (.string (nmS ws (mR nx pa er))))), vc := [rdOK ws nx] }, [.c (.rows 115 ws), .c (.int .i64 (.sym ((nmR ws en (mR nx pa er)).nx))), .c (.int .i64 (.sym en)), .c (.int .i64 (.sym ((nmR ws en (mR nx pa er)).pa))), .c (.int .i64 (.sym ((nmR ws en (mR nx pa er)).er)))])
  | _ => none
noncomputable def namC : Con := conM 64 [.c (.rows 115), .c (.int .i64), .c (.int .i64), .c (.int .i64), .c (.int .i64)] [] namS
theorem nam_ok : ConOK Try.prog 68 namC := by
  refine fn_obM tt_ok mixed Try.func68 rfl (fun _ _ => by kernel_rfl) (A := fun ds => ⟨fun _ => Cons.of [(67, pekC), (73, falC)], fun _ => none, fun _ => none⟩) (fun _ _ => (cons_cons pek_ok (cons_cons fal_ok cons_nil))) (by kernel_rfl) ?_
  intro ds
  unfold namS
  split
  · rename_i ws nx en pa er
    refine kmp (q := rdOK ws nx →
 rdOK ws nx ∧
 ((pkK ws nx != (1 : Int)) = true →
 rdOK ws nx ∧
 Value.string (ByteArray.mk #[]) = Value.string (nmS ws (mR nx pa er)) ∧
 ws.rows = ws.rows ∧
 (fl ws en (5 : Int) (mR nx pa er)).nx = (nmR ws en (mR nx pa er)).nx ∧
 en = en ∧
 (fl ws en (5 : Int) (mR nx pa er)).pa = (nmR ws en (mR nx pa er)).pa ∧ (fl ws en (5 : Int) (mR nx pa er)).er = (nmR ws en (mR nx pa er)).er) ∧
 ((pkK ws nx != (1 : Int)) = false →
 Value.string (pkS ws nx) = Value.string (nmS ws (mR nx pa er)) ∧
 ws.rows = ws.rows ∧
 IntKind.i64.wrap (nx + (1 : Int)) = (nmR ws en (mR nx pa er)).nx ∧ en = en ∧ pa = (nmR ws en (mR nx pa er)).pa ∧ er = (nmR ws en (mR nx pa er)).er)) (by kernel_rfl) ?_
    intro h
    refine ⟨h, fun hc => ?_, fun hc => ?_⟩
    · have hc : pkK ws nx ≠ 1 := by simpa using hc
      have e : nmR ws en (mR nx pa er) = fl ws en 5 (mR nx pa er) := if_neg hc
      have e2 : nmS ws (mR nx pa er) = ByteArray.empty := if_neg hc
      rw [e, e2]
      (repeat' (with_reducible apply And.intro)) <;> first | with_reducible rfl | exact True.intro | assumption | (symm; assumption) | rfl
    · have hc : pkK ws nx = 1 := by simpa using hc
      have e : nmR ws en (mR nx pa er) = gx (mR nx pa er) := if_pos hc
      have e2 : nmS ws (mR nx pa er) = pkS ws nx := if_pos hc
      rw [e, e2, nx1 h (pk_lt (by rw [hc]; decide))]
      (repeat' (with_reducible apply And.intro)) <;> first | with_reducible rfl | exact True.intro | assumption | (symm; assumption) | rfl
  · trivial
noncomputable def numS : List Dat → Option (Eff × List Seg) := fun ds => match ds with
  | [.d ws, .i nx, .i en, .i pa, .i er] => some ({ val := .one (.sc (.int .i64 (.sym (nuN ws (mR nx pa er))))), vc := [rdOK ws nx] }, [.c (.rows 115 ws), .c (.int .i64 (.sym ((nuR ws en (mR nx pa er)).nx))), .c (.int .i64 (.sym en)), .c (.int .i64 (.sym ((nuR ws en (mR nx pa er)).pa))), .c (.int .i64 (.sym ((nuR ws en (mR nx pa er)).er)))])
  | _ => none
noncomputable def numC : Con := conM 64 [.c (.rows 115), .c (.int .i64), .c (.int .i64), .c (.int .i64), .c (.int .i64)] [] numS
theorem num_ok : ConOK Try.prog 70 numC := by
  refine fn_obM tt_ok mixed Try.func70 rfl (fun _ _ => by kernel_rfl) (A := fun ds => ⟨fun _ => Cons.of [(67, pekC), (73, falC)], fun _ => none, fun _ => none⟩) (fun _ _ => (cons_cons pek_ok (cons_cons fal_ok cons_nil))) (by kernel_rfl) ?_
  intro ds
  unfold numS
  split
  · rename_i ws nx en pa er
    refine kmp (q := rdOK ws nx →
 rdOK ws nx ∧
 ((pkK ws nx != (2 : Int)) = true →
 rdOK ws nx ∧
 (0 : Int) = nuN ws (mR nx pa er) ∧
 ws.rows = ws.rows ∧
 (fl ws en (5 : Int) (mR nx pa er)).nx = (nuR ws en (mR nx pa er)).nx ∧
 en = en ∧
 (fl ws en (5 : Int) (mR nx pa er)).pa = (nuR ws en (mR nx pa er)).pa ∧ (fl ws en (5 : Int) (mR nx pa er)).er = (nuR ws en (mR nx pa er)).er) ∧
 ((pkK ws nx != (2 : Int)) = false →
 pkN ws nx = nuN ws (mR nx pa er) ∧
 ws.rows = ws.rows ∧
 IntKind.i64.wrap (nx + (1 : Int)) = (nuR ws en (mR nx pa er)).nx ∧ en = en ∧ pa = (nuR ws en (mR nx pa er)).pa ∧ er = (nuR ws en (mR nx pa er)).er)) (by kernel_rfl) ?_
    intro h
    refine ⟨h, fun hc => ?_, fun hc => ?_⟩
    · have hc : pkK ws nx ≠ 2 := by simpa using hc
      have e : nuR ws en (mR nx pa er) = fl ws en 5 (mR nx pa er) := if_neg hc
      have e2 : nuN ws (mR nx pa er) = 0 := if_neg hc
      rw [e, e2]
      (repeat' (with_reducible apply And.intro)) <;> first | with_reducible rfl | exact True.intro | assumption | (symm; assumption) | rfl
    · have hc : pkK ws nx = 2 := by simpa using hc
      have e : nuR ws en (mR nx pa er) = gx (mR nx pa er) := if_pos hc
      have e2 : nuN ws (mR nx pa er) = pkN ws nx := if_pos hc
      rw [e, e2, nx1 h (pk_lt (by rw [hc]; decide))]
      (repeat' (with_reducible apply And.intro)) <;> first | with_reducible rfl | exact True.intro | assumption | (symm; assumption) | rfl
  · trivial
noncomputable def finS : List Dat → Option (Eff × List Seg) := fun ds => match ds with
  | [.d ws, .i nx, .i en, .i pa, .i er] => some ({ val := .tup [], vc := [rdOK ws nx] }, [.c (.rows 115 ws), .c (.int .i64 (.sym ((fiR ws en (mR nx pa er)).nx))), .c (.int .i64 (.sym en)), .c (.int .i64 (.sym ((fiR ws en (mR nx pa er)).pa))), .c (.int .i64 (.sym ((fiR ws en (mR nx pa er)).er)))])
  | _ => none
noncomputable def finC : Con := conM 64 [.c (.rows 115), .c (.int .i64), .c (.int .i64), .c (.int .i64), .c (.int .i64)] [] finS
theorem fin_ok : ConOK Try.prog 41 finC := by
  refine fn_obM tt_ok mixed Try.func41 rfl (fun _ _ => by kernel_rfl) (A := fun ds => ⟨fun _ => Cons.of [(73, falC)], fun _ => none, fun _ => none⟩) (fun _ _ => (cons_cons fal_ok cons_nil)) (by kernel_rfl) ?_
  intro ds
  unfold finS
  split
  · rename_i ws nx en pa er
    refine kmp (q := rdOK ws nx →
 (decide (nx < (↑ws.len : Int)) = true →
 rdOK ws nx ∧
 ws.rows = ws.rows ∧
 (fl ws en (5 : Int) (mR nx pa er)).nx = (fiR ws en (mR nx pa er)).nx ∧
 en = en ∧
 (fl ws en (5 : Int) (mR nx pa er)).pa = (fiR ws en (mR nx pa er)).pa ∧ (fl ws en (5 : Int) (mR nx pa er)).er = (fiR ws en (mR nx pa er)).er) ∧
 (decide (nx < (↑ws.len : Int)) = false →
 ws.rows = ws.rows ∧ nx = (fiR ws en (mR nx pa er)).nx ∧ en = en ∧ pa = (fiR ws en (mR nx pa er)).pa ∧ er = (fiR ws en (mR nx pa er)).er)) (by kernel_rfl) ?_
    intro h
    refine ⟨fun hc => ?_, fun hc => ?_⟩
    · have e : fiR ws en (mR nx pa er) = fl ws en 5 (mR nx pa er) := if_pos (of_decide_eq_true hc)
      rw [e]
      (repeat' (with_reducible apply And.intro)) <;> first | with_reducible rfl | exact True.intro | assumption | (symm; assumption) | rfl
    · have e : fiR ws en (mR nx pa er) = mR nx pa er := if_neg (of_decide_eq_false hc)
      rw [e]
      (repeat' (with_reducible apply And.intro)) <;> first | with_reducible rfl | exact True.intro | assumption | (symm; assumption) | rfl
  · trivial
end Go.Proofs.Ytbhbjhejkamlnaa.Sx.Z
