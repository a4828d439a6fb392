/-
  parse: parts put together from the left.
-/
import Derived.Test.YtbhbjhejkamlnaaPr
namespace Go.Proofs.Ytbhbjhejkamlnaa.Sx.Z
open Go.RowKit
def isFn (n : Nat) (v : Value) : Bool := match v with
  | .func (.func m) a b => Nat.beq m n && Nat.beq a.size 0 && Nat.beq b.size 0
  | _ => false
theorem isFn_eq {n : Nat} {v : Value} (h : isFn n v = true) : v = .func (.func n) #[] #[] := by
  unfold isFn at h
  split at h
  · rename_i m a b
    simp only [Bool.and_eq_true] at h
    obtain ⟨⟨h1, h2⟩, h3⟩ := h
    rw [Nat.eq_of_beq_eq_true h1, Array.eq_empty_of_size_eq_zero (Nat.eq_of_beq_eq_true h2), Array.eq_empty_of_size_eq_zero (Nat.eq_of_beq_eq_true h3)]
  · cases h
structure Xp where
  k : Int
  n : Int
  s : ByteArray
  d : D
def Xp.row (x : Xp) : List D := [.i x.k, .i x.n, .s x.s, .l x.d.rows]
def X2 (k : Int) (a b : Xp) : Xp := ⟨k, 0, ByteArray.empty, .l [a.row, b.row]⟩
def left (ws : D) (r : Rd) : Nat := ws.len - r.nx.toNat
def chL (P : Rd → Xp × Rd) (K : ByteArray → Int) (ws : D) : Nat → Xp → Rd → Xp × Rd
  | 0, x, r => (x, r)
  | m + 1, x, r => if K (pkS ws r.nx) = 0 then (x, r) else chL P K ws m (X2 (K (pkS ws r.nx)) x (P (gx r)).1) (P (gx r)).2
def chA (P : Rd → Xp × Rd) (K : ByteArray → Int) (ws : D) (r : Rd) : Xp × Rd := chL P K ws (left ws (P r).2) (P r).1 (P r).2
def dpOK (ws : D) (r : Rd) (dp : Int) : Prop := 0 ≤ dp ∧ dp + (left ws r : Int) ≤ 2000000
structure PaOK (ws : D) (P : Rd → Xp × Rd) : Prop where
  up : ∀ r, rdOK ws r.nx → r.nx ≤ (P r).2.nx ∧ rdOK ws (P r).2.nx ∧ (P r).1.d.len ≤ 2
theorem subAll (d : D) : d.sub 0 (0 + d.len) = .l d.rows := by
  show D.l ((d.rows.take (0 + d.rows.length)).drop 0) = _
  rw [Nat.zero_add, List.take_length, List.drop_zero]
theorem chL_end {P : Rd → Xp × Rd} {K : ByteArray → Int} {ws : D} {x : Xp} {r : Rd} (h : K (pkS ws r.nx) = 0) : ∀ m, chL P K ws m x r = (x, r)
  | 0 => rfl
  | m + 1 => if_pos h
theorem gx_ok {ws : D} {r : Rd} (h : rdOK ws r.nx) (hl : r.nx < ws.len) : rdOK ws (gx r).nx ∧ left ws r = left ws (gx r) + 1 := by
  obtain ⟨a, b, c⟩ := h
  have e : (gx r).nx = r.nx + 1 := rfl
  unfold left rdOK
  rw [e]
  exact ⟨⟨by omega, by omega, c⟩, by omega⟩
theorem left_le {ws : D} {r q : Rd} (h : r.nx ≤ q.nx) : left ws q ≤ left ws r := by unfold left; omega
theorem chL_fuel {P : Rd → Xp × Rd} {K : ByteArray → Int} {ws : D} (hP : PaOK ws P) (he : K ByteArray.empty = 0) : ∀ (n : Nat) (r : Rd) (x : Xp), rdOK ws r.nx → left ws r ≤ n → chL P K ws n x r = chL P K ws (left ws r) x r := by
  intro n
  induction n using Nat.strongRecOn with
  | ind n ih =>
    intro r x h hl
    by_cases hk : K (pkS ws r.nx) = 0
    · rw [chL_end hk, chL_end hk]
    · obtain ⟨g1, g2⟩ := gx_ok h (pk_of he hk)
      obtain ⟨u1, u2, _⟩ := hP.up (gx r) g1
      have u3 := left_le (ws := ws) u1
      cases n with
      | zero => omega
      | succ k =>
        rw [g2, chL, if_neg hk, chL, if_neg hk, ih k (by omega) _ _ u2 (by omega), ih (left ws (gx r)) (by omega) _ _ u2 u3]
theorem chL_step {P : Rd → Xp × Rd} {K : ByteArray → Int} {ws : D} (hP : PaOK ws P) (he : K ByteArray.empty = 0) {r : Rd} (x : Xp) (h : rdOK ws r.nx) (hk : K (pkS ws r.nx) ≠ 0) : chL P K ws (left ws (P (gx r)).2) (X2 (K (pkS ws r.nx)) x (P (gx r)).1) (P (gx r)).2 = chL P K ws (left ws r) x r := by
  obtain ⟨g1, g2⟩ := gx_ok h (pk_of he hk)
  obtain ⟨u1, u2, _⟩ := hP.up (gx r) g1
  rw [g2, chL, if_neg hk, chL_fuel hP he (left ws (gx r)) _ _ u2 (left_le u1)]
theorem chL_up {P : Rd → Xp × Rd} {K : ByteArray → Int} {ws : D} (hP : PaOK ws P) (he : K ByteArray.empty = 0) : ∀ (m : Nat) (x : Xp) (r : Rd), rdOK ws r.nx → x.d.len ≤ 2 → r.nx ≤ (chL P K ws m x r).2.nx ∧ rdOK ws (chL P K ws m x r).2.nx ∧ (chL P K ws m x r).1.d.len ≤ 2
  | 0, x, r, h, hx => ⟨Int.le_refl _, h, hx⟩
  | m + 1, x, r, h, hx => by
    by_cases hk : K (pkS ws r.nx) = 0
    · rw [chL_end hk]
      exact ⟨Int.le_refl _, h, hx⟩
    · obtain ⟨g1, g2⟩ := gx_ok h (pk_of he hk)
      obtain ⟨u1, u2, u3⟩ := hP.up (gx r) g1
      rw [chL, if_neg hk]
      obtain ⟨w1, w2, w3⟩ := chL_up hP he m (X2 (K (pkS ws r.nx)) x (P (gx r)).1) (P (gx r)).2 u2 (Nat.le_refl _)
      have e5 : (gx r).nx = r.nx + 1 := rfl
      exact ⟨by omega, w2, w3⟩
theorem chA_up {P : Rd → Xp × Rd} {K : ByteArray → Int} {ws : D} (hP : PaOK ws P) (he : K ByteArray.empty = 0) : PaOK ws (chA P K ws) := ⟨fun r h => by
  obtain ⟨u1, u2, u3⟩ := hP.up r h
  obtain ⟨w1, w2, w3⟩ := chL_up hP he (left ws (P r).2) (P r).1 (P r).2 u2 u3
  exact ⟨Int.le_trans u1 w1, w2, w3⟩⟩
noncomputable def partS (P : Int → D → Int → Rd → Xp × Rd) (m : Nat) : List Dat → Option (Eff × List Seg) := fun ds => match ds with
  | [.d ws, .i nx, .i en, .i pa, .i er, .i dp] => some ({ val := .one (.agg [.c (.int .i64 (.sym ((P en ws dp (mR nx pa er)).1).k)), .c (.int .i64 (.sym ((P en ws dp (mR nx pa er)).1).n)), .c (.raw (.string ((P en ws dp (mR nx pa er)).1).s)), .c (.osl 90 0 (.lit 0) (.sym ((P en ws dp (mR nx pa er)).1).d.len))]), vc := [rdOK ws nx, dpOK ws (mR nx pa er) dp, left ws (mR nx pa er) < m], nw := [(0, .orow 90 (P en ws dp (mR nx pa er)).1.d)] }, [.c (.rows 115 ws), .c (.int .i64 (.sym ((((P en ws dp (mR nx pa er)).2)).nx))), .c (.int .i64 (.sym en)), .c (.int .i64 (.sym ((((P en ws dp (mR nx pa er)).2)).pa))), .c (.int .i64 (.sym ((((P en ws dp (mR nx pa er)).2)).er)))])
  | _ => none
noncomputable def partC (P : Int → D → Int → Rd → Xp × Rd) (m : Nat) : Con := conM 64 [.c (.rows 115), .c (.int .i64), .c (.int .i64), .c (.int .i64), .c (.int .i64)] [.sc (.int .i64)] (partS P m)
noncomputable def chSS (P : Int → D → Int → Rd → Xp × Rd) (m : Nat) : List Dat → Option (Eff × List Seg) := fun ds => match ds with
  | [.d ws, .i nx, .i en, .i pa, .i er, .v kf, .i dp] => (match isFn 107 kf with | true => some ({ val := .one (.agg [.c (.int .i64 (.sym ((chA (P en ws dp) skK ws (mR nx pa er)).1).k)), .c (.int .i64 (.sym ((chA (P en ws dp) skK ws (mR nx pa er)).1).n)), .c (.raw (.string ((chA (P en ws dp) skK ws (mR nx pa er)).1).s)), .c (.osl 90 0 (.lit 0) (.sym ((chA (P en ws dp) skK ws (mR nx pa er)).1).d.len))]), vc := [rdOK ws nx, dpOK ws (mR nx pa er) dp, left ws (mR nx pa er) < m, PaOK ws (P en ws dp)], nw := [(0, .orow 90 (chA (P en ws dp) skK ws (mR nx pa er)).1.d)] }, [.c (.rows 115 ws), .c (.int .i64 (.sym (((chA (P en ws dp) skK ws (mR nx pa er)).2).nx))), .c (.int .i64 (.sym en)), .c (.int .i64 (.sym (((chA (P en ws dp) skK ws (mR nx pa er)).2).pa))), .c (.int .i64 (.sym (((chA (P en ws dp) skK ws (mR nx pa er)).2).er)))]) | false => none)
  | _ => none
noncomputable def chSC (P : Int → D → Int → Rd → Xp × Rd) (m : Nat) : Con := conB 64 [.c (.rows 115), .c (.int .i64), .c (.int .i64), .c (.int .i64), .c (.int .i64)] 106 [.sc .any, .sc (.int .i64)] (chSS P m)
theorem chS_ok {P : Int → D → Int → Rd → Xp × Rd} {m : Nat} (hP : ConOK Try.prog 106 (partC P m)) : ConOK Try.prog 105 (chSC P m) := by
  refine fn_obB tt_ok mixed Try.func105 rfl (fun _ _ => by kernel_rfl) (A := fun ds => ⟨fun _ => Cons.of [(67, pekC), (107, skdC), (106, (partC P m))], fun k => match k, ds with | 2, [.d ws, .i nx, .i en, .i pa, .i er, .v _, .i dp] => some { ι := Xp × Rd, pre := fun _ q => rdOK ws q.2.nx ∧ (chL (P en ws dp) skK ws (left ws q.2) q.1 q.2 = chA (P en ws dp) skK ws (mR nx pa er)) ∧ q.1.d.len ≤ 2 ∧ nx ≤ q.2.nx, μ := fun q => left ws q.2, st := fun s q => famR s [] [0, 1, 2, 3, 8, 9] [(0, .own 64 ([.c (.rows 115 ws), .c (.int .i64 (.sym ((q.2).nx))), .c (.int .i64 (.sym en)), .c (.int .i64 (.sym ((q.2).pa))), .c (.int .i64 (.sym ((q.2).er)))])), (idOf s 9, .own 90 ([.c (.int .i64 (.sym q.1.k)), .c (.int .i64 (.sym q.1.n)), .c (.raw (.string q.1.s)), .c (.osl 90 (s.nx - 1) (.lit 0) (.sym q.1.d.len))])), (s.nx - 1, .orow 90 (q.1.d))] [8] } | _, _ => none, fun _ => none⟩) (fun _ _ => (cons_cons pek_ok (cons_cons skd_ok (cons_cons hP cons_nil)))) (by kernel_rfl) ?_
  intro ds
  unfold chSS
  split
  · rename_i ws nx en pa er kf dp
    split
    · rename_i hg
      obtain rfl := isFn_eq hg
      refine kmp (q := rdOK ws nx →
 dpOK ws (mR nx pa er) dp →
 left ws (mR nx pa er) < m →
 PaOK ws (P en ws dp) →
 rdOK ws nx ∧
 dpOK ws (mR nx pa er) dp ∧
 left ws (mR nx pa er) < m ∧
 (∃ (i : Xp × Rd),
 (rdOK ws i.snd.nx ∧
 chL (P en ws dp) skK ws (left ws i.snd) i.fst i.snd = chA (P en ws dp) skK ws (mR nx pa er) ∧ i.fst.d.len ≤ (2 : Nat) ∧ nx ≤ i.snd.nx) ∧
 Value.func (Fn.func (107 : Nat)) #[] #[] = Value.func (Fn.func (107 : Nat)) #[] #[] ∧
 dp = dp ∧
 ws.rows = ws.rows ∧
 (P en ws dp (mR nx pa er)).snd.nx = i.snd.nx ∧
 en = en ∧
 (P en ws dp (mR nx pa er)).snd.pa = i.snd.pa ∧
 (P en ws dp (mR nx pa er)).snd.er = i.snd.er ∧
 (P en ws dp (mR nx pa er)).fst.k = i.fst.k ∧
 (P en ws dp (mR nx pa er)).fst.n = i.fst.n ∧
 Value.string (P en ws dp (mR nx pa er)).fst.s = Value.string i.fst.s ∧
 (P en ws dp (mR nx pa er)).fst.d.len = i.fst.d.len ∧
 (P en ws dp (mR nx pa er)).fst.d.rows = i.fst.d.rows ∧
 (0 : Int) = (0 : Int) ∧ (0 : Int) = (0 : Int) ∧ Value.string ByteArray.empty = Value.string ByteArray.empty) ∧
 ∀ (i : Xp × Rd),
 rdOK ws i.snd.nx ∧
 chL (P en ws dp) skK ws (left ws i.snd) i.fst i.snd = chA (P en ws dp) skK ws (mR nx pa er) ∧ i.fst.d.len ≤ (2 : Nat) ∧ nx ≤ i.snd.nx →
 rdOK ws i.snd.nx ∧
 ((skK (pkS ws i.snd.nx) == (0 : Int)) = true →
 i.fst.k = (chA (P en ws dp) skK ws (mR nx pa er)).fst.k ∧
 i.fst.n = (chA (P en ws dp) skK ws (mR nx pa er)).fst.n ∧
 Value.string i.fst.s = Value.string (chA (P en ws dp) skK ws (mR nx pa er)).fst.s ∧
 i.fst.d.len = (chA (P en ws dp) skK ws (mR nx pa er)).fst.d.len ∧
 ws.rows = ws.rows ∧
 i.snd.nx = (chA (P en ws dp) skK ws (mR nx pa er)).snd.nx ∧
 en = en ∧
 i.snd.pa = (chA (P en ws dp) skK ws (mR nx pa er)).snd.pa ∧
 i.snd.er = (chA (P en ws dp) skK ws (mR nx pa er)).snd.er ∧
 i.fst.d.rows = (chA (P en ws dp) skK ws (mR nx pa er)).fst.d.rows) ∧
 ((skK (pkS ws i.snd.nx) == (0 : Int)) = false →
 rdOK ws (IntKind.i64.wrap (i.snd.nx + (1 : Int))) ∧
 dpOK ws (mR (IntKind.i64.wrap (i.snd.nx + (1 : Int))) i.snd.pa i.snd.er) dp ∧
 left ws (mR (IntKind.i64.wrap (i.snd.nx + (1 : Int))) i.snd.pa i.snd.er) < m ∧
 (0 : Nat) + i.fst.d.len ≤ i.fst.d.len ∧
 (0 : Nat) + (P en ws dp (mR (IntKind.i64.wrap (i.snd.nx + (1 : Int))) i.snd.pa i.snd.er)).fst.d.len ≤
 (P en ws dp (mR (IntKind.i64.wrap (i.snd.nx + (1 : Int))) i.snd.pa i.snd.er)).fst.d.len ∧
 ∃ (j : Xp × Rd),
 (rdOK ws j.snd.nx ∧
 chL (P en ws dp) skK ws (left ws j.snd) j.fst j.snd = chA (P en ws dp) skK ws (mR nx pa er) ∧
 j.fst.d.len ≤ (2 : Nat) ∧ nx ≤ j.snd.nx) ∧
 left ws j.snd < left ws i.snd ∧
 Value.func (Fn.func (107 : Nat)) #[] #[] = Value.func (Fn.func (107 : Nat)) #[] #[] ∧
 dp = dp ∧
 ws.rows = ws.rows ∧
 (P en ws dp (mR (IntKind.i64.wrap (i.snd.nx + (1 : Int))) i.snd.pa i.snd.er)).snd.nx = j.snd.nx ∧
 en = en ∧
 (P en ws dp (mR (IntKind.i64.wrap (i.snd.nx + (1 : Int))) i.snd.pa i.snd.er)).snd.pa = j.snd.pa ∧
 (P en ws dp (mR (IntKind.i64.wrap (i.snd.nx + (1 : Int))) i.snd.pa i.snd.er)).snd.er = j.snd.er ∧
 skK (pkS ws i.snd.nx) = j.fst.k ∧
 (0 : Int) = j.fst.n ∧
 Value.string ByteArray.empty = Value.string j.fst.s ∧
 (2 : Nat) = j.fst.d.len ∧
 [[D.i i.fst.k, D.i i.fst.n, D.s i.fst.s, i.fst.d.sub ((0 : Nat)) ((0 : Nat) + i.fst.d.len)],
 [D.i (P en ws dp (mR (IntKind.i64.wrap (i.snd.nx + (1 : Int))) i.snd.pa i.snd.er)).fst.k,
 D.i (P en ws dp (mR (IntKind.i64.wrap (i.snd.nx + (1 : Int))) i.snd.pa i.snd.er)).fst.n,
 D.s (P en ws dp (mR (IntKind.i64.wrap (i.snd.nx + (1 : Int))) i.snd.pa i.snd.er)).fst.s,
 (P en ws dp (mR (IntKind.i64.wrap (i.snd.nx + (1 : Int))) i.snd.pa i.snd.er)).fst.d.sub
 (0 : Nat)
 ((0 : Nat) +
 (P en ws dp
 (mR (IntKind.i64.wrap (i.snd.nx + (1 : Int))) i.snd.pa
 i.snd.er)).fst.d.len)]] =
 j.fst.d.rows ∧
 (0 : Int) = (0 : Int) ∧
 (0 : Int) = (0 : Int) ∧ Value.string ByteArray.empty = Value.string ByteArray.empty)) (by kernel_rfl) ?_
      intro h hd hl hP
      obtain ⟨v1, v2, v3⟩ := hP.up (mR nx pa er) h
      refine ⟨h, hd, hl, ⟨P en ws dp (mR nx pa er), ⟨v2, rfl, v3, v1⟩, (by (repeat' (with_reducible apply And.intro)) <;> first | with_reducible rfl | exact True.intro | assumption | (symm; assumption) | rfl)⟩, ?_⟩
      rintro q ⟨h1, h2, h3, h4⟩
      refine ⟨h1, fun hc => ?_, fun hc => ?_⟩
      · have hc : skK (pkS ws q.2.nx) = 0 := by simpa using hc
        rw [chL_end hc] at h2
        rw [← h2]
        (repeat' (with_reducible apply And.intro)) <;> first | with_reducible rfl | exact True.intro | assumption | (symm; assumption) | rfl
      · have hc : skK (pkS ws q.2.nx) ≠ 0 := by simpa using hc
        have hlt := pk_of sk_e hc
        obtain ⟨g1, g2⟩ := gx_ok h1 hlt
        obtain ⟨u1, u2, u3⟩ := hP.up (gx q.2) g1
        rw [nx1 h1 hlt, subAll, subAll]
        have e3 : mR (q.2.nx + 1) q.2.pa q.2.er = gx q.2 := rfl
        rw [e3]
        have l0 : left ws q.2 ≤ left ws (mR nx pa er) := left_le h4
        have l1 := left_le (ws := ws) u1
        have e5 : (gx q.2).nx = q.2.nx + 1 := rfl
        have hd2 : dpOK ws (gx q.2) dp := ⟨hd.1, by have := hd.2; omega⟩
        refine ⟨g1, hd2, by omega, by omega, by omega, ⟨(X2 (skK (pkS ws q.2.nx)) q.1 (P en ws dp (gx q.2)).1, (P en ws dp (gx q.2)).2), ⟨u2, (chL_step hP sk_e q.1 h1 hc).trans h2, Nat.le_refl _, (by show nx ≤ (P en ws dp (gx q.2)).2.nx; omega)⟩, (by show left ws (P en ws dp (gx q.2)).2 < left ws q.2; omega), (by (repeat' (with_reducible apply And.intro)) <;> first | with_reducible rfl | exact True.intro | assumption | (symm; assumption) | rfl)⟩⟩
    · trivial
  · trivial
noncomputable def chPS (P : Int → D → Int → Rd → Xp × Rd) (m : Nat) : List Dat → Option (Eff × List Seg) := fun ds => match ds with
  | [.d ws, .i nx, .i en, .i pa, .i er, .v kf, .i dp] => (match isFn 110 kf with | true => some ({ val := .one (.agg [.c (.int .i64 (.sym ((chA (P en ws dp) pdK ws (mR nx pa er)).1).k)), .c (.int .i64 (.sym ((chA (P en ws dp) pdK ws (mR nx pa er)).1).n)), .c (.raw (.string ((chA (P en ws dp) pdK ws (mR nx pa er)).1).s)), .c (.osl 90 0 (.lit 0) (.sym ((chA (P en ws dp) pdK ws (mR nx pa er)).1).d.len))]), vc := [rdOK ws nx, dpOK ws (mR nx pa er) dp, left ws (mR nx pa er) < m, PaOK ws (P en ws dp)], nw := [(0, .orow 90 (chA (P en ws dp) pdK ws (mR nx pa er)).1.d)] }, [.c (.rows 115 ws), .c (.int .i64 (.sym (((chA (P en ws dp) pdK ws (mR nx pa er)).2).nx))), .c (.int .i64 (.sym en)), .c (.int .i64 (.sym (((chA (P en ws dp) pdK ws (mR nx pa er)).2).pa))), .c (.int .i64 (.sym (((chA (P en ws dp) pdK ws (mR nx pa er)).2).er)))]) | false => none)
  | _ => none
noncomputable def chPC (P : Int → D → Int → Rd → Xp × Rd) (m : Nat) : Con := conB 64 [.c (.rows 115), .c (.int .i64), .c (.int .i64), .c (.int .i64), .c (.int .i64)] 109 [.sc .any, .sc (.int .i64)] (chPS P m)
theorem chP_ok {P : Int → D → Int → Rd → Xp × Rd} {m : Nat} (hP : ConOK Try.prog 109 (partC P m)) : ConOK Try.prog 105 (chPC P m) := by
  refine fn_obB tt_ok mixed Try.func105 rfl (fun _ _ => by kernel_rfl) (A := fun ds => ⟨fun _ => Cons.of [(67, pekC), (110, pkdC), (109, (partC P m))], fun k => match k, ds with | 2, [.d ws, .i nx, .i en, .i pa, .i er, .v _, .i dp] => some { ι := Xp × Rd, pre := fun _ q => rdOK ws q.2.nx ∧ (chL (P en ws dp) pdK ws (left ws q.2) q.1 q.2 = chA (P en ws dp) pdK ws (mR nx pa er)) ∧ q.1.d.len ≤ 2 ∧ nx ≤ q.2.nx, μ := fun q => left ws q.2, st := fun s q => famR s [] [0, 1, 2, 3, 8, 9] [(0, .own 64 ([.c (.rows 115 ws), .c (.int .i64 (.sym ((q.2).nx))), .c (.int .i64 (.sym en)), .c (.int .i64 (.sym ((q.2).pa))), .c (.int .i64 (.sym ((q.2).er)))])), (idOf s 9, .own 90 ([.c (.int .i64 (.sym q.1.k)), .c (.int .i64 (.sym q.1.n)), .c (.raw (.string q.1.s)), .c (.osl 90 (s.nx - 1) (.lit 0) (.sym q.1.d.len))])), (s.nx - 1, .orow 90 (q.1.d))] [8] } | _, _ => none, fun _ => none⟩) (fun _ _ => (cons_cons pek_ok (cons_cons pkd_ok (cons_cons hP cons_nil)))) (by kernel_rfl) ?_
  intro ds
  unfold chPS
  split
  · rename_i ws nx en pa er kf dp
    split
    · rename_i hg
      obtain rfl := isFn_eq hg
      refine kmp (q := rdOK ws nx →
 dpOK ws (mR nx pa er) dp →
 left ws (mR nx pa er) < m →
 PaOK ws (P en ws dp) →
 rdOK ws nx ∧
 dpOK ws (mR nx pa er) dp ∧
 left ws (mR nx pa er) < m ∧
 (∃ (i : Xp × Rd),
 (rdOK ws i.snd.nx ∧
 chL (P en ws dp) pdK ws (left ws i.snd) i.fst i.snd = chA (P en ws dp) pdK ws (mR nx pa er) ∧ i.fst.d.len ≤ (2 : Nat) ∧ nx ≤ i.snd.nx) ∧
 Value.func (Fn.func (110 : Nat)) #[] #[] = Value.func (Fn.func (110 : Nat)) #[] #[] ∧
 dp = dp ∧
 ws.rows = ws.rows ∧
 (P en ws dp (mR nx pa er)).snd.nx = i.snd.nx ∧
 en = en ∧
 (P en ws dp (mR nx pa er)).snd.pa = i.snd.pa ∧
 (P en ws dp (mR nx pa er)).snd.er = i.snd.er ∧
 (P en ws dp (mR nx pa er)).fst.k = i.fst.k ∧
 (P en ws dp (mR nx pa er)).fst.n = i.fst.n ∧
 Value.string (P en ws dp (mR nx pa er)).fst.s = Value.string i.fst.s ∧
 (P en ws dp (mR nx pa er)).fst.d.len = i.fst.d.len ∧
 (P en ws dp (mR nx pa er)).fst.d.rows = i.fst.d.rows ∧
 (0 : Int) = (0 : Int) ∧ (0 : Int) = (0 : Int) ∧ Value.string ByteArray.empty = Value.string ByteArray.empty) ∧
 ∀ (i : Xp × Rd),
 rdOK ws i.snd.nx ∧
 chL (P en ws dp) pdK ws (left ws i.snd) i.fst i.snd = chA (P en ws dp) pdK ws (mR nx pa er) ∧ i.fst.d.len ≤ (2 : Nat) ∧ nx ≤ i.snd.nx →
 rdOK ws i.snd.nx ∧
 ((pdK (pkS ws i.snd.nx) == (0 : Int)) = true →
 i.fst.k = (chA (P en ws dp) pdK ws (mR nx pa er)).fst.k ∧
 i.fst.n = (chA (P en ws dp) pdK ws (mR nx pa er)).fst.n ∧
 Value.string i.fst.s = Value.string (chA (P en ws dp) pdK ws (mR nx pa er)).fst.s ∧
 i.fst.d.len = (chA (P en ws dp) pdK ws (mR nx pa er)).fst.d.len ∧
 ws.rows = ws.rows ∧
 i.snd.nx = (chA (P en ws dp) pdK ws (mR nx pa er)).snd.nx ∧
 en = en ∧
 i.snd.pa = (chA (P en ws dp) pdK ws (mR nx pa er)).snd.pa ∧
 i.snd.er = (chA (P en ws dp) pdK ws (mR nx pa er)).snd.er ∧
 i.fst.d.rows = (chA (P en ws dp) pdK ws (mR nx pa er)).fst.d.rows) ∧
 ((pdK (pkS ws i.snd.nx) == (0 : Int)) = false →
 rdOK ws (IntKind.i64.wrap (i.snd.nx + (1 : Int))) ∧
 dpOK ws (mR (IntKind.i64.wrap (i.snd.nx + (1 : Int))) i.snd.pa i.snd.er) dp ∧
 left ws (mR (IntKind.i64.wrap (i.snd.nx + (1 : Int))) i.snd.pa i.snd.er) < m ∧
 (0 : Nat) + i.fst.d.len ≤ i.fst.d.len ∧
 (0 : Nat) + (P en ws dp (mR (IntKind.i64.wrap (i.snd.nx + (1 : Int))) i.snd.pa i.snd.er)).fst.d.len ≤
 (P en ws dp (mR (IntKind.i64.wrap (i.snd.nx + (1 : Int))) i.snd.pa i.snd.er)).fst.d.len ∧
 ∃ (j : Xp × Rd),
 (rdOK ws j.snd.nx ∧
 chL (P en ws dp) pdK ws (left ws j.snd) j.fst j.snd = chA (P en ws dp) pdK ws (mR nx pa er) ∧
 j.fst.d.len ≤ (2 : Nat) ∧ nx ≤ j.snd.nx) ∧
 left ws j.snd < left ws i.snd ∧
 Value.func (Fn.func (110 : Nat)) #[] #[] = Value.func (Fn.func (110 : Nat)) #[] #[] ∧
 dp = dp ∧
 ws.rows = ws.rows ∧
 (P en ws dp (mR (IntKind.i64.wrap (i.snd.nx + (1 : Int))) i.snd.pa i.snd.er)).snd.nx = j.snd.nx ∧
 en = en ∧
 (P en ws dp (mR (IntKind.i64.wrap (i.snd.nx + (1 : Int))) i.snd.pa i.snd.er)).snd.pa = j.snd.pa ∧
 (P en ws dp (mR (IntKind.i64.wrap (i.snd.nx + (1 : Int))) i.snd.pa i.snd.er)).snd.er = j.snd.er ∧
 pdK (pkS ws i.snd.nx) = j.fst.k ∧
 (0 : Int) = j.fst.n ∧
 Value.string ByteArray.empty = Value.string j.fst.s ∧
 (2 : Nat) = j.fst.d.len ∧
 [[D.i i.fst.k, D.i i.fst.n, D.s i.fst.s, i.fst.d.sub ((0 : Nat)) ((0 : Nat) + i.fst.d.len)],
 [D.i (P en ws dp (mR (IntKind.i64.wrap (i.snd.nx + (1 : Int))) i.snd.pa i.snd.er)).fst.k,
 D.i (P en ws dp (mR (IntKind.i64.wrap (i.snd.nx + (1 : Int))) i.snd.pa i.snd.er)).fst.n,
 D.s (P en ws dp (mR (IntKind.i64.wrap (i.snd.nx + (1 : Int))) i.snd.pa i.snd.er)).fst.s,
 (P en ws dp (mR (IntKind.i64.wrap (i.snd.nx + (1 : Int))) i.snd.pa i.snd.er)).fst.d.sub
 (0 : Nat)
 ((0 : Nat) +
 (P en ws dp
 (mR (IntKind.i64.wrap (i.snd.nx + (1 : Int))) i.snd.pa
 i.snd.er)).fst.d.len)]] =
 j.fst.d.rows ∧
 (0 : Int) = (0 : Int) ∧
 (0 : Int) = (0 : Int) ∧ Value.string ByteArray.empty = Value.string ByteArray.empty)) (by kernel_rfl) ?_
      intro h hd hl hP
      obtain ⟨v1, v2, v3⟩ := hP.up (mR nx pa er) h
      refine ⟨h, hd, hl, ⟨P en ws dp (mR nx pa er), ⟨v2, rfl, v3, v1⟩, (by (repeat' (with_reducible apply And.intro)) <;> first | with_reducible rfl | exact True.intro | assumption | (symm; assumption) | rfl)⟩, ?_⟩
      rintro q ⟨h1, h2, h3, h4⟩
      refine ⟨h1, fun hc => ?_, fun hc => ?_⟩
      · have hc : pdK (pkS ws q.2.nx) = 0 := by simpa using hc
        rw [chL_end hc] at h2
        rw [← h2]
        (repeat' (with_reducible apply And.intro)) <;> first | with_reducible rfl | exact True.intro | assumption | (symm; assumption) | rfl
      · have hc : pdK (pkS ws q.2.nx) ≠ 0 := by simpa using hc
        have hlt := pk_of pd_e hc
        obtain ⟨g1, g2⟩ := gx_ok h1 hlt
        obtain ⟨u1, u2, u3⟩ := hP.up (gx q.2) g1
        rw [nx1 h1 hlt, subAll, subAll]
        have e3 : mR (q.2.nx + 1) q.2.pa q.2.er = gx q.2 := rfl
        rw [e3]
        have l0 : left ws q.2 ≤ left ws (mR nx pa er) := left_le h4
        have l1 := left_le (ws := ws) u1
        have e5 : (gx q.2).nx = q.2.nx + 1 := rfl
        have hd2 : dpOK ws (gx q.2) dp := ⟨hd.1, by have := hd.2; omega⟩
        refine ⟨g1, hd2, by omega, by omega, by omega, ⟨(X2 (pdK (pkS ws q.2.nx)) q.1 (P en ws dp (gx q.2)).1, (P en ws dp (gx q.2)).2), ⟨u2, (chL_step hP pd_e q.1 h1 hc).trans h2, Nat.le_refl _, (by show nx ≤ (P en ws dp (gx q.2)).2.nx; omega)⟩, (by show left ws (P en ws dp (gx q.2)).2 < left ws q.2; omega), (by (repeat' (with_reducible apply And.intro)) <;> first | with_reducible rfl | exact True.intro | assumption | (symm; assumption) | rfl)⟩⟩
    · trivial
  · trivial
noncomputable def sumS (P : Int → D → Int → Rd → Xp × Rd) (m : Nat) : List Dat → Option (Eff × List Seg) := fun ds => match ds with
  | [.d ws, .i nx, .i en, .i pa, .i er, .i dp] => some ({ val := .one (.agg [.c (.int .i64 (.sym ((chA (P en ws dp) skK ws (mR nx pa er)).1).k)), .c (.int .i64 (.sym ((chA (P en ws dp) skK ws (mR nx pa er)).1).n)), .c (.raw (.string ((chA (P en ws dp) skK ws (mR nx pa er)).1).s)), .c (.osl 90 0 (.lit 0) (.sym ((chA (P en ws dp) skK ws (mR nx pa er)).1).d.len))]), vc := [rdOK ws nx, dpOK ws (mR nx pa er) dp, left ws (mR nx pa er) < m], nw := [(0, .orow 90 (chA (P en ws dp) skK ws (mR nx pa er)).1.d)] }, [.c (.rows 115 ws), .c (.int .i64 (.sym (((chA (P en ws dp) skK ws (mR nx pa er)).2).nx))), .c (.int .i64 (.sym en)), .c (.int .i64 (.sym (((chA (P en ws dp) skK ws (mR nx pa er)).2).pa))), .c (.int .i64 (.sym (((chA (P en ws dp) skK ws (mR nx pa er)).2).er)))])
  | _ => none
noncomputable def sumC (P : Int → D → Int → Rd → Xp × Rd) (m : Nat) : Con := conM 64 [.c (.rows 115), .c (.int .i64), .c (.int .i64), .c (.int .i64), .c (.int .i64)] [.sc (.int .i64)] (sumS P m)
theorem sum_ok {P : Int → D → Int → Rd → Xp × Rd} {m : Nat} (hP : ConOK Try.prog 106 (partC P m)) (hPa : ∀ en ws dp, PaOK ws (P en ws dp)) : ConOK Try.prog 99 (sumC P m) := by
  refine fn_obM tt_ok mixed Try.func99 rfl (fun _ _ => by kernel_rfl) (A := fun ds => ⟨fun _ => Cons.of [(105, (chSC P m))], fun _ => none, fun _ => none⟩) (fun _ _ => (cons_cons (chS_ok hP) cons_nil)) (by kernel_rfl) ?_
  intro ds
  unfold sumS
  split
  · rename_i ws nx en pa er dp
    refine kmp (q := rdOK ws nx →
 dpOK ws (mR nx pa er) dp →
 left ws (mR nx pa er) < m →
 rdOK ws nx ∧
 dpOK ws (mR nx pa er) dp ∧
 left ws (mR nx pa er) < m ∧
 PaOK ws (P en ws dp) ∧
 (chA (P en ws dp) skK ws (mR nx pa er)).fst.k = (chA (P en ws dp) skK ws (mR nx pa er)).fst.k ∧
 (chA (P en ws dp) skK ws (mR nx pa er)).fst.n = (chA (P en ws dp) skK ws (mR nx pa er)).fst.n ∧
 Value.string (chA (P en ws dp) skK ws (mR nx pa er)).fst.s = Value.string (chA (P en ws dp) skK ws (mR nx pa er)).fst.s ∧
 (chA (P en ws dp) skK ws (mR nx pa er)).fst.d.len = (chA (P en ws dp) skK ws (mR nx pa er)).fst.d.len ∧
 ws.rows = ws.rows ∧
 (chA (P en ws dp) skK ws (mR nx pa er)).snd.nx = (chA (P en ws dp) skK ws (mR nx pa er)).snd.nx ∧
 en = en ∧
 (chA (P en ws dp) skK ws (mR nx pa er)).snd.pa = (chA (P en ws dp) skK ws (mR nx pa er)).snd.pa ∧
 (chA (P en ws dp) skK ws (mR nx pa er)).snd.er = (chA (P en ws dp) skK ws (mR nx pa er)).snd.er ∧
 (chA (P en ws dp) skK ws (mR nx pa er)).fst.d.rows = (chA (P en ws dp) skK ws (mR nx pa er)).fst.d.rows) (by kernel_rfl) ?_
    intro h hd hl
    have hQ := hPa en ws dp
    refine ⟨h, hd, hl, hQ, ?_⟩
    (repeat' (with_reducible apply And.intro)) <;> first | with_reducible rfl | exact True.intro | assumption | (symm; assumption) | rfl
  · trivial
noncomputable def prdS (P : Int → D → Int → Rd → Xp × Rd) (m : Nat) : List Dat → Option (Eff × List Seg) := fun ds => match ds with
  | [.d ws, .i nx, .i en, .i pa, .i er, .i dp] => some ({ val := .one (.agg [.c (.int .i64 (.sym ((chA (P en ws dp) pdK ws (mR nx pa er)).1).k)), .c (.int .i64 (.sym ((chA (P en ws dp) pdK ws (mR nx pa er)).1).n)), .c (.raw (.string ((chA (P en ws dp) pdK ws (mR nx pa er)).1).s)), .c (.osl 90 0 (.lit 0) (.sym ((chA (P en ws dp) pdK ws (mR nx pa er)).1).d.len))]), vc := [rdOK ws nx, dpOK ws (mR nx pa er) dp, left ws (mR nx pa er) < m], nw := [(0, .orow 90 (chA (P en ws dp) pdK ws (mR nx pa er)).1.d)] }, [.c (.rows 115 ws), .c (.int .i64 (.sym (((chA (P en ws dp) pdK ws (mR nx pa er)).2).nx))), .c (.int .i64 (.sym en)), .c (.int .i64 (.sym (((chA (P en ws dp) pdK ws (mR nx pa er)).2).pa))), .c (.int .i64 (.sym (((chA (P en ws dp) pdK ws (mR nx pa er)).2).er)))])
  | _ => none
noncomputable def prdC (P : Int → D → Int → Rd → Xp × Rd) (m : Nat) : Con := conM 64 [.c (.rows 115), .c (.int .i64), .c (.int .i64), .c (.int .i64), .c (.int .i64)] [.sc (.int .i64)] (prdS P m)
theorem prd_ok {P : Int → D → Int → Rd → Xp × Rd} {m : Nat} (hP : ConOK Try.prog 109 (partC P m)) (hPa : ∀ en ws dp, PaOK ws (P en ws dp)) : ConOK Try.prog 106 (prdC P m) := by
  refine fn_obM tt_ok mixed Try.func106 rfl (fun _ _ => by kernel_rfl) (A := fun ds => ⟨fun _ => Cons.of [(105, (chPC P m))], fun _ => none, fun _ => none⟩) (fun _ _ => (cons_cons (chP_ok hP) cons_nil)) (by kernel_rfl) ?_
  intro ds
  unfold prdS
  split
  · rename_i ws nx en pa er dp
    refine kmp (q := rdOK ws nx →
 dpOK ws (mR nx pa er) dp →
 left ws (mR nx pa er) < m →
 rdOK ws nx ∧
 dpOK ws (mR nx pa er) dp ∧
 left ws (mR nx pa er) < m ∧
 PaOK ws (P en ws dp) ∧
 (chA (P en ws dp) pdK ws (mR nx pa er)).fst.k = (chA (P en ws dp) pdK ws (mR nx pa er)).fst.k ∧
 (chA (P en ws dp) pdK ws (mR nx pa er)).fst.n = (chA (P en ws dp) pdK ws (mR nx pa er)).fst.n ∧
 Value.string (chA (P en ws dp) pdK ws (mR nx pa er)).fst.s = Value.string (chA (P en ws dp) pdK ws (mR nx pa er)).fst.s ∧
 (chA (P en ws dp) pdK ws (mR nx pa er)).fst.d.len = (chA (P en ws dp) pdK ws (mR nx pa er)).fst.d.len ∧
 ws.rows = ws.rows ∧
 (chA (P en ws dp) pdK ws (mR nx pa er)).snd.nx = (chA (P en ws dp) pdK ws (mR nx pa er)).snd.nx ∧
 en = en ∧
 (chA (P en ws dp) pdK ws (mR nx pa er)).snd.pa = (chA (P en ws dp) pdK ws (mR nx pa er)).snd.pa ∧
 (chA (P en ws dp) pdK ws (mR nx pa er)).snd.er = (chA (P en ws dp) pdK ws (mR nx pa er)).snd.er ∧
 (chA (P en ws dp) pdK ws (mR nx pa er)).fst.d.rows = (chA (P en ws dp) pdK ws (mR nx pa er)).fst.d.rows) (by kernel_rfl) ?_
    intro h hd hl
    have hQ := hPa en ws dp
    refine ⟨h, hd, hl, hQ, ?_⟩
    (repeat' (with_reducible apply And.intro)) <;> first | with_reducible rfl | exact True.intro | assumption | (symm; assumption) | rfl
  · trivial
end Go.Proofs.Ytbhbjhejkamlnaa.Sx.Z
