/-
  parse: a factor, over what a factor of fewer words does.
-/
import Derived.Test.YtbhbjhejkamlnaaPs
namespace Go.Proofs.Ytbhbjhejkamlnaa.Sx.Z
open Go.RowKit
abbrev PF := Int → D → Int → Rd → Xp × Rd
def prF (P : PF) : PF := fun en ws dp r => chA (P en ws dp) pdK ws r
def smF (P : PF) : PF := fun en ws dp r => chA (prF P en ws dp) skK ws r
def miB : ByteArray := ⟨#[45]⟩
def opB : ByteArray := ⟨#[40]⟩
def clB : ByteArray := ⟨#[41]⟩
def fcB (P : PF) : PF := fun en ws dp r =>
  if pkK ws r.nx = 2 then (⟨1, nuN ws r, ByteArray.empty, .l []⟩, nuR ws en r)
  else if acB ws r.nx miB = true then (⟨3, 0, ByteArray.empty, .l [(P en ws (dp + 1) (neR ws en miB dp r)).1.row]⟩, (P en ws (dp + 1) (neR ws en miB dp r)).2)
  else if acB ws r.nx opB = true then ((smF P en ws (dp + 1) (neR ws en opB dp r)).1, exR ws en clB (smF P en ws (dp + 1) (neR ws en opB dp r)).2)
  else (⟨2, 0, nmS ws r, .l []⟩, nmR ws en r)
theorem ne_up {ws : D} {en dp : Int} {t : ByteArray} {r : Rd} (h : rdOK ws r.nx) (ht : 0 < t.size) (ha : acB ws r.nx t = true) : rdOK ws (neR ws en t dp r).nx ∧ left ws (neR ws en t dp r) < left ws r ∧ r.nx ≤ (neR ws en t dp r).nx := by
  have hl := ac_lt ht ha
  obtain ⟨a, b, c⟩ := h
  have key : (neR ws en t dp r).nx = ws.len ∨ (neR ws en t dp r).nx = r.nx + 1 := by
    unfold neR
    split
    · left
      unfold fl
      split <;> rfl
    · right
      rw [exR_yes ha]; rfl
  have hr : rdOK ws (neR ws en t dp r).nx ∧ r.nx < (neR ws en t dp r).nx := by
    rcases key with k | k <;> rw [k] <;> exact ⟨⟨by omega, by omega, c⟩, by omega⟩
  refine ⟨hr.1, ?_, Int.le_of_lt hr.2⟩
  have := hr.1.2.1
  unfold left
  omega
theorem etR (r : Rd) : mR r.nx r.pa r.er = r := rfl
theorem smF_ok {P : PF} {m : Nat} (hP : ConOK Try.prog 109 (partC P m)) (hPa : ∀ en ws dp, PaOK ws (P en ws dp)) : ConOK Try.prog 99 (partC (smF P) m) :=
  sum_ok (P := prF P) (m := m) (prd_ok (P := P) (m := m) hP hPa) (fun en ws dp => chA_up (hPa en ws dp) pd_e)
theorem smF_up {P : PF} (hPa : ∀ en ws dp, PaOK ws (P en ws dp)) (en : Int) (ws : D) (dp : Int) : PaOK ws (smF P en ws dp) := chA_up (chA_up (hPa en ws dp) pd_e) sk_e
noncomputable def facS (P : PF) (m : Nat) : List Dat → Option (Eff × List Seg) := fun ds => match ds with
  | [.d ws, .i nx, .i en, .i pa, .i er, .i dp] => some ({ val := .one (.agg [.c (.int .i64 (.sym ((fcB P en ws dp (mR nx pa er)).1).k)), .c (.int .i64 (.sym ((fcB P en ws dp (mR nx pa er)).1).n)), .c (.raw (.string ((fcB P en ws dp (mR nx pa er)).1).s)), .c (.osl 90 0 (.lit 0) (.sym ((fcB P en ws dp (mR nx pa er)).1).d.len))]), vc := [rdOK ws nx, dpOK ws (mR nx pa er) dp, left ws (mR nx pa er) < m + 1], nw := [(0, .orow 90 (fcB P en ws dp (mR nx pa er)).1.d)] }, [.c (.rows 115 ws), .c (.int .i64 (.sym (((fcB P en ws dp (mR nx pa er)).2).nx))), .c (.int .i64 (.sym en)), .c (.int .i64 (.sym (((fcB P en ws dp (mR nx pa er)).2).pa))), .c (.int .i64 (.sym (((fcB P en ws dp (mR nx pa er)).2).er)))])
  | _ => none
noncomputable def facC (P : PF) (m : Nat) : Con := conM 64 [.c (.rows 115), .c (.int .i64), .c (.int .i64), .c (.int .i64), .c (.int .i64)] [.sc (.int .i64)] (facS P m)
theorem fac_ok {P : PF} {m : Nat} (hP : ConOK Try.prog 109 (partC P m)) (hPa : ∀ en ws dp, PaOK ws (P en ws dp)) : ConOK Try.prog 109 (facC P m) := by
  refine fn_obM tt_ok mixed Try.func109 rfl (fun _ _ => by kernel_rfl) (A := fun ds => ⟨fun _ => Cons.of [(67, pekC), (70, numC), (104, nstC), (109, (partC P m)), (99, (partC (smF P) m)), (71, expC), (68, namC)], fun _ => none, fun _ => none⟩) (fun _ _ => (cons_cons pek_ok (cons_cons num_ok (cons_cons nst_ok (cons_cons hP (cons_cons (smF_ok hP hPa) (cons_cons exp_ok (cons_cons nam_ok cons_nil)))))))) (by kernel_rfl) ?_
  intro ds
  unfold facS
  split
  · rename_i ws nx en pa er dp
    refine kmp (q := rdOK ws nx →
 dpOK ws (mR nx pa er) dp →
 left ws (mR nx pa er) < m + (1 : Nat) →
 rdOK ws nx ∧
 ((pkK ws nx == (2 : Int)) = true →
 rdOK ws nx ∧
 (1 : Int) = (fcB P en ws dp (mR nx pa er)).fst.k ∧
 nuN ws (mR nx pa er) = (fcB P en ws dp (mR nx pa er)).fst.n ∧
 Value.string ByteArray.empty = Value.string (fcB P en ws dp (mR nx pa er)).fst.s ∧
 (fcB P en ws dp (mR nx pa er)).fst.d.len = (0 : Nat) ∧
 ws.rows = ws.rows ∧
 (nuR ws en (mR nx pa er)).nx = (fcB P en ws dp (mR nx pa er)).snd.nx ∧
 en = en ∧
 (nuR ws en (mR nx pa er)).pa = (fcB P en ws dp (mR nx pa er)).snd.pa ∧
 (nuR ws en (mR nx pa er)).er = (fcB P en ws dp (mR nx pa er)).snd.er ∧ (fcB P en ws dp (mR nx pa er)).fst.d.rows = []) ∧
 ((pkK ws nx == (2 : Int)) = false →
 (((pkS ws nx).toList == (ByteArray.mk #[(45 : UInt8)]).toList) = true →
 rdOK ws nx ∧
 (0 : Nat) < (ByteArray.mk #[(45 : UInt8)]).size ∧
 rdOK ws (neR ws en (ByteArray.mk #[(45 : UInt8)]) dp (mR nx pa er)).nx ∧
 dpOK ws
 (mR (neR ws en (ByteArray.mk #[(45 : UInt8)]) dp (mR nx pa er)).nx (neR ws en (ByteArray.mk #[(45 : UInt8)]) dp (mR nx pa er)).pa
 (neR ws en (ByteArray.mk #[(45 : UInt8)]) dp (mR nx pa er)).er)
 (IntKind.i64.wrap (dp + (1 : Int))) ∧
 left ws
 (mR (neR ws en (ByteArray.mk #[(45 : UInt8)]) dp (mR nx pa er)).nx (neR ws en (ByteArray.mk #[(45 : UInt8)]) dp (mR nx pa er)).pa
 (neR ws en (ByteArray.mk #[(45 : UInt8)]) dp (mR nx pa er)).er) <
 m ∧
 (0 : Nat) +
 (P en ws (IntKind.i64.wrap (dp + (1 : Int)))
 (mR (neR ws en (ByteArray.mk #[(45 : UInt8)]) dp (mR nx pa er)).nx
 (neR ws en (ByteArray.mk #[(45 : UInt8)]) dp (mR nx pa er)).pa
 (neR ws en (ByteArray.mk #[(45 : UInt8)]) dp (mR nx pa er)).er)).fst.d.len ≤
 (P en ws (IntKind.i64.wrap (dp + (1 : Int)))
 (mR (neR ws en (ByteArray.mk #[(45 : UInt8)]) dp (mR nx pa er)).nx
 (neR ws en (ByteArray.mk #[(45 : UInt8)]) dp (mR nx pa er)).pa
 (neR ws en (ByteArray.mk #[(45 : UInt8)]) dp (mR nx pa er)).er)).fst.d.len ∧
 (3 : Int) = (fcB P en ws dp (mR nx pa er)).fst.k ∧
 (0 : Int) = (fcB P en ws dp (mR nx pa er)).fst.n ∧
 Value.string ByteArray.empty = Value.string (fcB P en ws dp (mR nx pa er)).fst.s ∧
 (1 : Nat) = (fcB P en ws dp (mR nx pa er)).fst.d.len ∧
 ws.rows = ws.rows ∧
 (P en ws (IntKind.i64.wrap (dp + (1 : Int)))
 (mR (neR ws en (ByteArray.mk #[(45 : UInt8)]) dp (mR nx pa er)).nx
 (neR ws en (ByteArray.mk #[(45 : UInt8)]) dp (mR nx pa er)).pa
 (neR ws en (ByteArray.mk #[(45 : UInt8)]) dp (mR nx pa er)).er)).snd.nx =
 (fcB P en ws dp (mR nx pa er)).snd.nx ∧
 en = en ∧
 (P en ws (IntKind.i64.wrap (dp + (1 : Int)))
 (mR (neR ws en (ByteArray.mk #[(45 : UInt8)]) dp (mR nx pa er)).nx
 (neR ws en (ByteArray.mk #[(45 : UInt8)]) dp (mR nx pa er)).pa
 (neR ws en (ByteArray.mk #[(45 : UInt8)]) dp (mR nx pa er)).er)).snd.pa =
 (fcB P en ws dp (mR nx pa er)).snd.pa ∧
 (P en ws (IntKind.i64.wrap (dp + (1 : Int)))
 (mR (neR ws en (ByteArray.mk #[(45 : UInt8)]) dp (mR nx pa er)).nx
 (neR ws en (ByteArray.mk #[(45 : UInt8)]) dp (mR nx pa er)).pa
 (neR ws en (ByteArray.mk #[(45 : UInt8)]) dp (mR nx pa er)).er)).snd.er =
 (fcB P en ws dp (mR nx pa er)).snd.er ∧
 [[D.i
 (P en ws (IntKind.i64.wrap (dp + (1 : Int)))
 (mR (neR ws en (ByteArray.mk #[(45 : UInt8)]) dp (mR nx pa er)).nx
 (neR ws en (ByteArray.mk #[(45 : UInt8)]) dp (mR nx pa er)).pa
 (neR ws en (ByteArray.mk #[(45 : UInt8)]) dp (mR nx pa er)).er)).fst.k,
 D.i
 (P en ws (IntKind.i64.wrap (dp + (1 : Int)))
 (mR (neR ws en (ByteArray.mk #[(45 : UInt8)]) dp (mR nx pa er)).nx
 (neR ws en (ByteArray.mk #[(45 : UInt8)]) dp (mR nx pa er)).pa
 (neR ws en (ByteArray.mk #[(45 : UInt8)]) dp (mR nx pa er)).er)).fst.n,
 D.s
 (P en ws (IntKind.i64.wrap (dp + (1 : Int)))
 (mR (neR ws en (ByteArray.mk #[(45 : UInt8)]) dp (mR nx pa er)).nx
 (neR ws en (ByteArray.mk #[(45 : UInt8)]) dp (mR nx pa er)).pa
 (neR ws en (ByteArray.mk #[(45 : UInt8)]) dp (mR nx pa er)).er)).fst.s,
 (P en ws (IntKind.i64.wrap (dp + (1 : Int)))
 (mR (neR ws en (ByteArray.mk #[(45 : UInt8)]) dp (mR nx pa er)).nx
 (neR ws en (ByteArray.mk #[(45 : UInt8)]) dp (mR nx pa er)).pa
 (neR ws en (ByteArray.mk #[(45 : UInt8)]) dp (mR nx pa er)).er)).fst.d.sub
 (0 : Nat)
 ((0 : Nat) +
 (P en ws (IntKind.i64.wrap (dp + (1 : Int)))
 (mR (neR ws en (ByteArray.mk #[(45 : UInt8)]) dp (mR nx pa er)).nx
 (neR ws en (ByteArray.mk #[(45 : UInt8)]) dp (mR nx pa er)).pa
 (neR ws en (ByteArray.mk #[(45 : UInt8)]) dp (mR nx pa er)).er)).fst.d.len)]] =
 (fcB P en ws dp (mR nx pa er)).fst.d.rows) ∧
 (((pkS ws nx).toList == (ByteArray.mk #[(45 : UInt8)]).toList) = false →
 (((pkS ws nx).toList == (ByteArray.mk #[(40 : UInt8)]).toList) = true →
 rdOK ws nx ∧
 (0 : Nat) < (ByteArray.mk #[(40 : UInt8)]).size ∧
 rdOK ws (neR ws en (ByteArray.mk #[(40 : UInt8)]) dp (mR nx pa er)).nx ∧
 dpOK ws
 (mR (neR ws en (ByteArray.mk #[(40 : UInt8)]) dp (mR nx pa er)).nx (neR ws en (ByteArray.mk #[(40 : UInt8)]) dp (mR nx pa er)).pa
 (neR ws en (ByteArray.mk #[(40 : UInt8)]) dp (mR nx pa er)).er)
 (IntKind.i64.wrap (dp + (1 : Int))) ∧
 left ws
 (mR (neR ws en (ByteArray.mk #[(40 : UInt8)]) dp (mR nx pa er)).nx (neR ws en (ByteArray.mk #[(40 : UInt8)]) dp (mR nx pa er)).pa
 (neR ws en (ByteArray.mk #[(40 : UInt8)]) dp (mR nx pa er)).er) <
 m ∧
 rdOK ws
 (smF P en ws (IntKind.i64.wrap (dp + (1 : Int)))
 (mR (neR ws en (ByteArray.mk #[(40 : UInt8)]) dp (mR nx pa er)).nx
 (neR ws en (ByteArray.mk #[(40 : UInt8)]) dp (mR nx pa er)).pa
 (neR ws en (ByteArray.mk #[(40 : UInt8)]) dp (mR nx pa er)).er)).snd.nx ∧
 (0 : Nat) < (ByteArray.mk #[(41 : UInt8)]).size ∧
 (smF P en ws (IntKind.i64.wrap (dp + (1 : Int)))
 (mR (neR ws en (ByteArray.mk #[(40 : UInt8)]) dp (mR nx pa er)).nx
 (neR ws en (ByteArray.mk #[(40 : UInt8)]) dp (mR nx pa er)).pa
 (neR ws en (ByteArray.mk #[(40 : UInt8)]) dp (mR nx pa er)).er)).fst.k =
 (fcB P en ws dp (mR nx pa er)).fst.k ∧
 (smF P en ws (IntKind.i64.wrap (dp + (1 : Int)))
 (mR (neR ws en (ByteArray.mk #[(40 : UInt8)]) dp (mR nx pa er)).nx
 (neR ws en (ByteArray.mk #[(40 : UInt8)]) dp (mR nx pa er)).pa
 (neR ws en (ByteArray.mk #[(40 : UInt8)]) dp (mR nx pa er)).er)).fst.n =
 (fcB P en ws dp (mR nx pa er)).fst.n ∧
 Value.string
 (smF P en ws (IntKind.i64.wrap (dp + (1 : Int)))
 (mR (neR ws en (ByteArray.mk #[(40 : UInt8)]) dp (mR nx pa er)).nx
 (neR ws en (ByteArray.mk #[(40 : UInt8)]) dp (mR nx pa er)).pa
 (neR ws en (ByteArray.mk #[(40 : UInt8)]) dp (mR nx pa er)).er)).fst.s =
 Value.string (fcB P en ws dp (mR nx pa er)).fst.s ∧
 (smF P en ws (IntKind.i64.wrap (dp + (1 : Int)))
 (mR (neR ws en (ByteArray.mk #[(40 : UInt8)]) dp (mR nx pa er)).nx
 (neR ws en (ByteArray.mk #[(40 : UInt8)]) dp (mR nx pa er)).pa
 (neR ws en (ByteArray.mk #[(40 : UInt8)]) dp (mR nx pa er)).er)).fst.d.len =
 (fcB P en ws dp (mR nx pa er)).fst.d.len ∧
 ws.rows = ws.rows ∧
 (exR ws en (ByteArray.mk #[(41 : UInt8)])
 (mR
 (smF P en ws (IntKind.i64.wrap (dp + (1 : Int)))
 (mR (neR ws en (ByteArray.mk #[(40 : UInt8)]) dp (mR nx pa er)).nx
 (neR ws en (ByteArray.mk #[(40 : UInt8)]) dp (mR nx pa er)).pa
 (neR ws en (ByteArray.mk #[(40 : UInt8)]) dp (mR nx pa er)).er)).snd.nx
 (smF P en ws (IntKind.i64.wrap (dp + (1 : Int)))
 (mR (neR ws en (ByteArray.mk #[(40 : UInt8)]) dp (mR nx pa er)).nx
 (neR ws en (ByteArray.mk #[(40 : UInt8)]) dp (mR nx pa er)).pa
 (neR ws en (ByteArray.mk #[(40 : UInt8)]) dp (mR nx pa er)).er)).snd.pa
 (smF P en ws (IntKind.i64.wrap (dp + (1 : Int)))
 (mR (neR ws en (ByteArray.mk #[(40 : UInt8)]) dp (mR nx pa er)).nx
 (neR ws en (ByteArray.mk #[(40 : UInt8)]) dp (mR nx pa er)).pa
 (neR ws en (ByteArray.mk #[(40 : UInt8)]) dp (mR nx pa er)).er)).snd.er)).nx =
 (fcB P en ws dp (mR nx pa er)).snd.nx ∧
 en = en ∧
 (exR ws en (ByteArray.mk #[(41 : UInt8)])
 (mR
 (smF P en ws (IntKind.i64.wrap (dp + (1 : Int)))
 (mR (neR ws en (ByteArray.mk #[(40 : UInt8)]) dp (mR nx pa er)).nx
 (neR ws en (ByteArray.mk #[(40 : UInt8)]) dp (mR nx pa er)).pa
 (neR ws en (ByteArray.mk #[(40 : UInt8)]) dp (mR nx pa er)).er)).snd.nx
 (smF P en ws (IntKind.i64.wrap (dp + (1 : Int)))
 (mR (neR ws en (ByteArray.mk #[(40 : UInt8)]) dp (mR nx pa er)).nx
 (neR ws en (ByteArray.mk #[(40 : UInt8)]) dp (mR nx pa er)).pa
 (neR ws en (ByteArray.mk #[(40 : UInt8)]) dp (mR nx pa er)).er)).snd.pa
 (smF P en ws (IntKind.i64.wrap (dp + (1 : Int)))
 (mR (neR ws en (ByteArray.mk #[(40 : UInt8)]) dp (mR nx pa er)).nx
 (neR ws en (ByteArray.mk #[(40 : UInt8)]) dp (mR nx pa er)).pa
 (neR ws en (ByteArray.mk #[(40 : UInt8)]) dp (mR nx pa er)).er)).snd.er)).pa =
 (fcB P en ws dp (mR nx pa er)).snd.pa ∧
 (exR ws en (ByteArray.mk #[(41 : UInt8)])
 (mR
 (smF P en ws (IntKind.i64.wrap (dp + (1 : Int)))
 (mR (neR ws en (ByteArray.mk #[(40 : UInt8)]) dp (mR nx pa er)).nx
 (neR ws en (ByteArray.mk #[(40 : UInt8)]) dp (mR nx pa er)).pa
 (neR ws en (ByteArray.mk #[(40 : UInt8)]) dp (mR nx pa er)).er)).snd.nx
 (smF P en ws (IntKind.i64.wrap (dp + (1 : Int)))
 (mR (neR ws en (ByteArray.mk #[(40 : UInt8)]) dp (mR nx pa er)).nx
 (neR ws en (ByteArray.mk #[(40 : UInt8)]) dp (mR nx pa er)).pa
 (neR ws en (ByteArray.mk #[(40 : UInt8)]) dp (mR nx pa er)).er)).snd.pa
 (smF P en ws (IntKind.i64.wrap (dp + (1 : Int)))
 (mR (neR ws en (ByteArray.mk #[(40 : UInt8)]) dp (mR nx pa er)).nx
 (neR ws en (ByteArray.mk #[(40 : UInt8)]) dp (mR nx pa er)).pa
 (neR ws en (ByteArray.mk #[(40 : UInt8)]) dp (mR nx pa er)).er)).snd.er)).er =
 (fcB P en ws dp (mR nx pa er)).snd.er ∧
 (smF P en ws (IntKind.i64.wrap (dp + (1 : Int)))
 (mR (neR ws en (ByteArray.mk #[(40 : UInt8)]) dp (mR nx pa er)).nx
 (neR ws en (ByteArray.mk #[(40 : UInt8)]) dp (mR nx pa er)).pa
 (neR ws en (ByteArray.mk #[(40 : UInt8)]) dp (mR nx pa er)).er)).fst.d.rows =
 (fcB P en ws dp (mR nx pa er)).fst.d.rows) ∧
 (((pkS ws nx).toList == (ByteArray.mk #[(40 : UInt8)]).toList) = false →
 rdOK ws nx ∧
 (2 : Int) = (fcB P en ws dp (mR nx pa er)).fst.k ∧
 (0 : Int) = (fcB P en ws dp (mR nx pa er)).fst.n ∧
 Value.string (nmS ws (mR nx pa er)) = Value.string (fcB P en ws dp (mR nx pa er)).fst.s ∧
 (fcB P en ws dp (mR nx pa er)).fst.d.len = (0 : Nat) ∧
 ws.rows = ws.rows ∧
 (nmR ws en (mR nx pa er)).nx = (fcB P en ws dp (mR nx pa er)).snd.nx ∧
 en = en ∧
 (nmR ws en (mR nx pa er)).pa = (fcB P en ws dp (mR nx pa er)).snd.pa ∧
 (nmR ws en (mR nx pa er)).er = (fcB P en ws dp (mR nx pa er)).snd.er ∧ (fcB P en ws dp (mR nx pa er)).fst.d.rows = [])))) (by kernel_rfl) ?_
    intro h hd hl
    have e1 : IntKind.i64.wrap (dp + 1) = dp + 1 := by
      have := hd.1
      have := hd.2
      rw [IntWalk.i64_in _ (by omega)]
    simp only [etR, e1, subAll]
    refine ⟨h, fun hk => ?_, fun hk => ⟨fun hm => ?_, fun hm => ⟨fun ho => ?_, fun ho => ?_⟩⟩⟩
    · have hk : pkK ws nx = 2 := by simpa using hk
      have e : fcB P en ws dp (mR nx pa er) = (⟨1, nuN ws (mR nx pa er), ByteArray.empty, .l []⟩, nuR ws en (mR nx pa er)) := if_pos hk
      rw [e]
      (repeat' (with_reducible apply And.intro)) <;> first | with_reducible rfl | exact True.intro | assumption | (symm; assumption) | rfl
    · have hk : pkK ws nx ≠ 2 := by simpa using hk
      have hm : acB ws nx miB = true := hm
      obtain ⟨n1, n2, n3⟩ := ne_up (r := mR nx pa er) (en := en) (dp := dp) h (show 0 < miB.size by decide) hm
      have e : fcB P en ws dp (mR nx pa er) = (⟨3, 0, ByteArray.empty, .l [(P en ws (dp + 1) (neR ws en miB dp (mR nx pa er))).1.row]⟩, (P en ws (dp + 1) (neR ws en miB dp (mR nx pa er))).2) := (if_neg hk).trans (if_pos hm)
      rw [e]
      have d1 : dpOK ws (neR ws en miB dp (mR nx pa er)) (dp + 1) := ⟨by have := hd.1; omega, by have := hd.2; omega⟩
      have l1 : left ws (neR ws en miB dp (mR nx pa er)) < m := by omega
      exact ⟨h, (by decide), n1, d1, l1, (by omega), (by (repeat' (with_reducible apply And.intro)) <;> first | with_reducible rfl | exact True.intro | assumption | (symm; assumption) | rfl)⟩
    · have hk : pkK ws nx ≠ 2 := by simpa using hk
      have hm : ¬ acB ws nx miB = true := by rw [show acB ws nx miB = false from hm]; decide
      have ho : acB ws nx opB = true := ho
      obtain ⟨n1, n2, n3⟩ := ne_up (r := mR nx pa er) (en := en) (dp := dp) h (show 0 < opB.size by decide) ho
      have e : fcB P en ws dp (mR nx pa er) = ((smF P en ws (dp + 1) (neR ws en opB dp (mR nx pa er))).1, exR ws en clB (smF P en ws (dp + 1) (neR ws en opB dp (mR nx pa er))).2) := (if_neg hk).trans ((if_neg hm).trans (if_pos ho))
      rw [e]
      have d1 : dpOK ws (neR ws en opB dp (mR nx pa er)) (dp + 1) := ⟨by have := hd.1; omega, by have := hd.2; omega⟩
      have l1 : left ws (neR ws en opB dp (mR nx pa er)) < m := by omega
      have u := (smF_up hPa en ws (dp + 1)).up _ n1
      exact ⟨h, (by decide), n1, d1, l1, u.2.1, (by decide), (by (repeat' (with_reducible apply And.intro)) <;> first | with_reducible rfl | exact True.intro | assumption | (symm; assumption) | rfl)⟩
    · have hk : pkK ws nx ≠ 2 := by simpa using hk
      have hm : ¬ acB ws nx miB = true := by rw [show acB ws nx miB = false from hm]; decide
      have ho : ¬ acB ws nx opB = true := by rw [show acB ws nx opB = false from ho]; decide
      have e : fcB P en ws dp (mR nx pa er) = (⟨2, 0, nmS ws (mR nx pa er), .l []⟩, nmR ws en (mR nx pa er)) := (if_neg hk).trans ((if_neg hm).trans (if_neg ho))
      rw [e]
      (repeat' (with_reducible apply And.intro)) <;> first | with_reducible rfl | exact True.intro | assumption | (symm; assumption) | rfl
  · trivial
end Go.Proofs.Ytbhbjhejkamlnaa.Sx.Z
