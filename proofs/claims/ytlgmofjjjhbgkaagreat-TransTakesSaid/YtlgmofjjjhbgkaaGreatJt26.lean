/-
  trans: copied, Step (where at most one error is told).; trans: copied, pass, Step, over a send.; trans: pass, copied, Step over a Recv, with rows of his own.; What a tree's number is: the reference's Eval.; What points tell of the Nums: their numbers, and what is within what.; reckons; EvalLinears' contract.; Rows of numbers alone: what a Num of them has; the law's row, and its two rows.; What an expression may be has what it is; of one row of numbers it is that alone.; What variables may be behind an assignment, and where a comparison holds.; EvalHas' contract.; Where a comparison holds: the reference's, and what is told of it.; The law's own test: an assignment is gone over.; Over an edge that does nothing, over an Input: of numbers alone.
-/
import Derived.Test.YtlgmofjjjhbgkaaGreatJt25
import Derived.Test.YtlgmofjjjhbgkaaGreatJt16
import Derived.Test.YtlgmofjjjhbgkaaGreatJt18
import Derived.Test.YtlgmofjjjhbgkaaGreatJt13
namespace Go.Proofs.YtlgmofjjjhbgkaaGreat.Sx.Z
open Go.RowKit
def edC (gr : D) (p q : Int) (j : Nat) : D := (gr.el p.toNat 1).el q.toNat j
def edX (gr : D) (p q : Int) (j : Nat) : Xp := ex (edC gr p q j).toI (edC gr p q (j + 1)).toI (edC gr p q (j + 2)).toI (edC gr p q (j + 3))
noncomputable def stpZ (gr : D) (p q n : Int) (z : Zs) : Zs := pasZ n (edC gr p q 2).toI (edC gr p q 3).toI (edX gr p q 6) (edC gr p q 10).toI (edX gr p q 11) (edX gr p q 15) z
noncomputable def stpK (gr : D) (p q n : Int) (z : Zs) : D := pasK n (edC gr p q 2).toI (edX gr p q 6) (edC gr p q 10).toI (edX gr p q 11) (edX gr p q 15) z (.l [])
def nonZ (z : Zs) : Zs := if z.1 = true then (true, fun _ => 0) else z
noncomputable def tcopiedS : FSpec := fun ds _ => match ds with
  | [.b c, .d I, .i n, .b e, .f f, .d cn, .d ru] => some { val := .one (.agg [.c (.bool (.sym c)), .c (.rows 53 (I)), .c (.int .i64 (.sym n)), .c (.bool (.sym e)), .ints .i64 (.lit 49) f, .c (.rows 53 (cn)), .c (.rows 93 (ru))]), vc := [I.len ≤ 1000, cn.len ≤ 1000, ru.len ≤ 1000] }
  | _ => none
noncomputable def tcopiedC : Con := con [stateA] tcopiedS
theorem tcopied_ok : ConOK Tryz.prog 31 tcopiedC := by
  refine fn_ob tt_ok mixed Tryz.func31 rfl (fun _ _ => by kernel_rfl) (A := fun ds => ⟨fun _ => Cons.of [(58, ccloneC), (59, scloneC)], fun _ => none, fun _ => none⟩) (fun _ _ => (cons_cons cclone_ok (cons_cons sclone_ok cons_nil))) (by kernel_rfl) ?_
  intro ds fr
  unfold tcopiedS
  split
  · rename_i c I n e f cn ru
    refine kmp (q := I.len ≤ 1000 → cn.len ≤ 1000 → ru.len ≤ 1000 → I.len ≤ 1000 ∧ cn.len ≤ 1000 ∧ ru.len ≤ 1000 ∧ c = c ∧ I.rows = I.rows ∧ n = n ∧ e = e ∧ (∀ (o : Nat), o < nat_lit 49 → f o = f o) ∧ cn.rows = cn.rows ∧ ru.rows = ru.rows) (by kernel_rfl) ?_
    intro h1 h2 h3
    (repeat' apply And.intro) <;> first | rfl | exact h1 | exact h2 | exact h3 | (intro _ _; rfl)
  · trivial
noncomputable def tstepS : FSpec := fun ds _ => match ds with
  | [.d ch, .d gr, .d va, .d el, .d df, .i p, .i q, .b c, .d I, .i n, .b e, .f f, .d cn, .d ru] => some { val := .tup [.agg [.c (.bool (.sym (nonZ (stpZ gr p q n (e, f)) : Zs).1)), .c (.rows 53 (itD (n.toNat) (n) (nonZ (stpZ gr p q n (e, f))))), .c (.int .i64 (.sym (n))), .c (.bool (.sym (nonZ (stpZ gr p q n (e, f)) : Zs).1)), .ints .i64 (.lit 49) (nonZ (stpZ gr p q n (e, f)) : Zs).2, .c (.rows 53 (if (stpZ gr p q n (e, f)).1 = true then repD ch.len [.i 1, .i 0] else cn)), .c (.rows 93 (if (stpZ gr p q n (e, f)).1 = true then repD ch.len [.i 0] else ru))], .agg [.c (.int .i64 (.sym (-1))), .c (.int .i64 (.sym (0))), .c (.int .i64 (.sym (1))), .c (.int .i64 (.sym (0)))], .sc (.rows 3 (stpK gr p q n (e, f)))], vc := [NumOK n c I e f, c = false, 0 < n, topN (varP va p) = n, edgeB ch gr p q = true, cn.len = ch.len, ru.len = ch.len, ch.len ≤ 1000, ((edC gr p q 2).toI = 0 ∨ (edC gr p q 2).toI = 1 ∨ (edC gr p q 2).toI = 5 ∨ (edC gr p q 2).toI = 6), (stpK gr p q n (e, f)).len ≤ 1] }
  | _ => none
noncomputable def tstepC : Con := con [worldA, iA, iA, stateA] tstepS
theorem tstep_ok : ConOK Tryz.prog 9 tstepC := by
  refine fn_ob tt_ok mixed Tryz.func9 rfl (fun _ _ => by kernel_rfl) (A := fun ds => ⟨fun _ => Cons.of [(11, temptyC), (27, tisedgeC), (28, tfitsC), (29, tnoneC), (30, tnothingC), (31, tcopiedC), (32, tpassC), (33, ssortC)], fun _ => none, fun _ => none⟩) (fun _ _ => (cons_cons tempty_ok (cons_cons tisedge_ok (cons_cons tfits_ok (cons_cons tnone_ok (cons_cons tnothing_ok (cons_cons tcopied_ok (cons_cons tpass_ok (cons_cons ssort_ok cons_nil))))))))) (by kernel_rfl) ?_
  intro ds fr
  unfold tstepS
  split
  · rename_i ch gr va el df p q c I n e f cn ru
    refine kmp (q := NumOK n c I e f → c = false → (0 : Int) < n → topN (varP va p) = n → edgeB ch gr p q = true → cn.len = ch.len → ru.len = ch.len → ch.len ≤ 1000 → (edC gr p q 2).toI = (0 : Int) ∨ (edC gr p q 2).toI = (1 : Int) ∨ (edC gr p q 2).toI = (5 : Int) ∨ (edC gr p q 2).toI = (6 : Int) → (stpK gr p q n (e, f)).len ≤ 1 → ((c || !edgeB ch gr p q || !((↑cn.len : Int) == (↑ch.len : Int) && (↑ru.len : Int) == (↑ch.len : Int))) = true → ch.len ≤ 1000 ∧ true = (nonZ (stpZ gr p q n (e, f))).fst ∧ List.map (fun (j : Nat) => [D.i (itvLo (topN (varP va p)) true (fun (x : Nat) => (0 : Int)) (↑j : Int)), D.i (itvHi (topN (varP va p)) true (fun (x : Nat) => (0 : Int)) (↑j : Int))]) (List.range (topN (varP va p)).toNat) = List.map (fun (j : Nat) => [D.i (itvLo n (nonZ (stpZ gr p q n (e, f))).fst (nonZ (stpZ gr p q n (e, f))).snd (↑j : Int)), D.i (itvHi n (nonZ (stpZ gr p q n (e, f))).fst (nonZ (stpZ gr p q n (e, f))).snd (↑j : Int))]) (List.range n.toNat) ∧ topN (varP va p) = n ∧ true = (nonZ (stpZ gr p q n (e, f))).fst ∧ (∀ (o : Nat), o < nat_lit 49 → (0 : Int) = (nonZ (stpZ gr p q n (e, f))).snd o) ∧ List.replicate ch.len [D.i (1 : Int), D.i (0 : Int)] = (if (stpZ gr p q n (e, f)).fst = true then repD ch.len [D.i (1 : Int), D.i (0 : Int)] else cn).rows ∧ List.replicate ch.len [D.i (0 : Int)] = (if (stpZ gr p q n (e, f)).fst = true then repD ch.len [D.i (0 : Int)] else ru).rows ∧ (-1 : Int) = (-1 : Int) ∧ (0 : Int) = (0 : Int) ∧ (1 : Int) = (1 : Int) ∧ (0 : Int) = (0 : Int) ∧ (stpK gr p q n (e, f)).rows = []) ∧ ((c || !edgeB ch gr p q || !((↑cn.len : Int) == (↑ch.len : Int) && (↑ru.len : Int) == (↑ch.len : Int))) = false → ((0 : Int) ≤ p ∧ p < (↑gr.len : Int)) ∧ I.len ≤ 1000 ∧ cn.len ≤ 1000 ∧ ru.len ≤ 1000 ∧ ((0 : Int) ≤ q ∧ q < (↑(gr.el p.toNat 1).len : Int)) ∧ NumOK n c I e f ∧ (0 : Int) < n ∧ (D.l []).len ≤ 900 ∧ ((edC gr p q 2).toI = (0 : Int) ∨ (edC gr p q 2).toI = (1 : Int) ∨ (edC gr p q 2).toI = (5 : Int) ∨ (edC gr p q 2).toI = (6 : Int)) ∧ 0 + (stpK gr p q n (e, f)).len ≤ (stpK gr p q n (e, f)).len ∧ ((stpK gr p q n (e, f)).sub (0) (0 + (stpK gr p q n (e, f)).len)).len ≤ 1 ∧ ((stpZ gr p q n (e, f)).fst = true → ch.len ≤ 1000 ∧ 0 + (stpK gr p q n (e, f)).len ≤ (stpK gr p q n (e, f)).len ∧ true = (nonZ (stpZ gr p q n (e, f))).fst ∧ List.map (fun (j : Nat) => [D.i (itvLo (topN (varP va p)) true (fun (x : Nat) => (0 : Int)) (↑j : Int)), D.i (itvHi (topN (varP va p)) true (fun (x : Nat) => (0 : Int)) (↑j : Int))]) (List.range (topN (varP va p)).toNat) = List.map (fun (j : Nat) => [D.i (itvLo n (nonZ (stpZ gr p q n (e, f))).fst (nonZ (stpZ gr p q n (e, f))).snd (↑j : Int)), D.i (itvHi n (nonZ (stpZ gr p q n (e, f))).fst (nonZ (stpZ gr p q n (e, f))).snd (↑j : Int))]) (List.range n.toNat) ∧ topN (varP va p) = n ∧ true = (nonZ (stpZ gr p q n (e, f))).fst ∧ (∀ (o : Nat), o < nat_lit 49 → (0 : Int) = (nonZ (stpZ gr p q n (e, f))).snd o) ∧ List.replicate ch.len [D.i (1 : Int), D.i (0 : Int)] = (if (stpZ gr p q n (e, f)).fst = true then repD ch.len [D.i (1 : Int), D.i (0 : Int)] else cn).rows ∧ List.replicate ch.len [D.i (0 : Int)] = (if (stpZ gr p q n (e, f)).fst = true then repD ch.len [D.i (0 : Int)] else ru).rows ∧ (-1 : Int) = (-1 : Int) ∧ (0 : Int) = (0 : Int) ∧ (1 : Int) = (1 : Int) ∧ (0 : Int) = (0 : Int) ∧ List.drop (0) (List.take (0 + (stpK gr p q n (e, f)).len) (stpK gr p q n (e, f)).rows) = (stpK gr p q n (e, f)).rows) ∧ ((stpZ gr p q n (e, f)).fst = false → 0 + (stpK gr p q n (e, f)).len ≤ (stpK gr p q n (e, f)).len ∧ (stpZ gr p q n (e, f)).fst = (nonZ (stpZ gr p q n (e, f))).fst ∧ List.map (fun (j : Nat) => [D.i (itvLo n (stpZ gr p q n (e, f)).fst (stpZ gr p q n (e, f)).snd (↑j : Int)), D.i (itvHi n (stpZ gr p q n (e, f)).fst (stpZ gr p q n (e, f)).snd (↑j : Int))]) (List.range n.toNat) = List.map (fun (j : Nat) => [D.i (itvLo n (nonZ (stpZ gr p q n (e, f))).fst (nonZ (stpZ gr p q n (e, f))).snd (↑j : Int)), D.i (itvHi n (nonZ (stpZ gr p q n (e, f))).fst (nonZ (stpZ gr p q n (e, f))).snd (↑j : Int))]) (List.range n.toNat) ∧ n = n ∧ (stpZ gr p q n (e, f)).fst = (nonZ (stpZ gr p q n (e, f))).fst ∧ (∀ (o : Nat), o < nat_lit 49 → (stpZ gr p q n (e, f)).snd o = (nonZ (stpZ gr p q n (e, f))).snd o) ∧ cn.rows = (if (stpZ gr p q n (e, f)).fst = true then repD ch.len [D.i (1 : Int), D.i (0 : Int)] else cn).rows ∧ ru.rows = (if (stpZ gr p q n (e, f)).fst = true then repD ch.len [D.i (0 : Int)] else ru).rows ∧ (-1 : Int) = (-1 : Int) ∧ (0 : Int) = (0 : Int) ∧ (1 : Int) = (1 : Int) ∧ (0 : Int) = (0 : Int) ∧ List.drop (0) (List.take (0 + (stpK gr p q n (e, f)).len) (stpK gr p q n (e, f)).rows) = (stpK gr p q n (e, f)).rows))) (by kernel_rfl) ?_
    intro hn hc h0 ht hE hcn hru hch hk h1
    have hb : (c || !edgeB ch gr p q || !((cn.len : Int) == (ch.len : Int) && (ru.len : Int) == (ch.len : Int))) = false := by rw [hc, hE, hcn, hru]; simp
    have hpq : plB p gr.len = true ∧ plB q (gr.el p.toNat 1).len = true := by
      have hE := hE
      unfold edgeB at hE
      split at hE
      · cases hE
      · rename_i hh; simpa using hh
    have hpl : ∀ {a b : Int}, plB a b = true → 0 ≤ a ∧ a < b := fun {a b} h => by unfold plB at h; simp at h; omega
    have ta : List.drop 0 (List.take (0 + (stpK gr p q n (e, f)).len) (stpK gr p q n (e, f)).rows) = (stpK gr p q n (e, f)).rows := by
      rw [Nat.zero_add]
      exact (congrArg (List.drop 0) (List.take_length)).trans rfl
    refine ⟨fun h => absurd (hb.symm.trans h) (by decide), fun _ => ⟨hpl hpq.1, hn.le, by omega, by omega, hpl hpq.2, hn, h0, by decide, hk, by omega, ?_, fun hz => ?_, fun hz => ?_⟩⟩
    · show (List.drop 0 (List.take (0 + (stpK gr p q n (e, f)).len) (stpK gr p q n (e, f)).rows)).length ≤ 1
      rw [ta]
      exact h1
    · have hN : nonZ (stpZ gr p q n (e, f)) = (true, fun _ => 0) := if_pos hz
      rw [hN, ht, if_pos hz, if_pos hz]
      (repeat' apply And.intro) <;> first | rfl | exact hch | exact ta | omega | (intro _ _; rfl)
    · have hN : nonZ (stpZ gr p q n (e, f)) = stpZ gr p q n (e, f) := if_neg (by rw [hz]; decide)
      rw [hN, if_neg (by rw [hz]; decide), if_neg (by rw [hz]; decide)]
      (repeat' apply And.intro) <;> first | rfl | exact ta | omega | (intro _ _; rfl)
  · trivial
end Go.Proofs.YtlgmofjjjhbgkaaGreat.Sx.Z
namespace Go.Proofs.YtlgmofjjjhbgkaaGreat.Sx.Z
open Go.RowKit
noncomputable def ucloneS : List Dat → Option Eff := fun ds => match ds with
  | [.d I] => some { val := .one (.sc (.osl 53 0 (.lit 0) (.sym I.len))), vc := [0 < I.len ∧ I.len ≤ 1000], nw := [(0, .orow 53 I)] }
  | _ => none
noncomputable def ucloneC : Con := conS [.sc (.rows 53)] ucloneS
theorem uclone_ok : ConOK Tryz.prog 58 ucloneC := by
  refine fn_obS tt_ok mixed Tryz.func58 rfl (fun _ _ => by kernel_rfl) (A := fun ds => ⟨fun _ => Cons.of [], fun _ => none, fun _ => none⟩) (fun _ _ => cons_nil) (by kernel_rfl) ?_
  intro ds
  unfold ucloneS
  split
  · rename_i I
    refine kmp (q := 0 < I.len ∧ I.len ≤ 1000 → 0 < I.len ∧ 0 = (D.l []).len ∧ (0 + I.len) * 16 ≤ 140737488355328 ∧ 0 + I.len = I.len ∧ [] ++ I.rows = I.rows) (by kernel_rfl) ?_
    rintro ⟨h0, h1⟩
    exact ⟨h0, rfl, by omega, by omega, List.nil_append _⟩
  · trivial
noncomputable def usclS : List Dat → Option Eff := fun ds => match ds with
  | [.d I] => some { val := .one (.sc (.osl 93 0 (.lit 0) (.sym I.len))), vc := [0 < I.len ∧ I.len ≤ 1000], nw := [(0, .orow 93 I)] }
  | _ => none
noncomputable def usclC : Con := conS [.sc (.rows 93)] usclS
theorem uscl_ok : ConOK Tryz.prog 59 usclC := by
  refine fn_obS tt_ok mixed Tryz.func59 rfl (fun _ _ => by kernel_rfl) (A := fun ds => ⟨fun _ => Cons.of [], fun _ => none, fun _ => none⟩) (fun _ _ => cons_nil) (by kernel_rfl) ?_
  intro ds
  unfold usclS
  split
  · rename_i I
    refine kmp (q := 0 < I.len ∧ I.len ≤ 1000 → 0 < I.len ∧ 0 = (D.l []).len ∧ (0 + I.len) * 1 ≤ 140737488355328 ∧ 0 + I.len = I.len ∧ [] ++ I.rows = I.rows) (by kernel_rfl) ?_
    rintro ⟨h0, h1⟩
    exact ⟨h0, rfl, by omega, by omega, List.nil_append _⟩
  · trivial
end Go.Proofs.YtlgmofjjjhbgkaaGreat.Sx.Z
namespace Go.Proofs.YtlgmofjjjhbgkaaGreat.Sx.Z
open Go.RowKit
noncomputable def wpassS : List Dat → Option (Eff × List Seg) := fun ds => match ds with
  | .d ch :: .d gr :: .d va :: .d el :: .d df :: .i gn :: .d ge :: .d gh :: .i ed :: .b _c :: .d I :: .i n :: .b e :: .f f :: .d cn :: .d ru :: .i sc :: .i sg :: .i s0 :: .i s1 :: .d ks :: [.i _x0, .i _x1, .i x2, .i x3, .i x4, .i x5, .i _qk, .i _qm, .i _qv, .d _qd, .i _op, .i _k, .i _m, .i _v, .d _d, .i _k2, .i _m2, .i _v2, .d _d2] => some ({ val := .one (.sc (.bool (.lit true))), vc := [x2 = 4, Good n (e, f), I.len ≤ 1000, 0 ≤ x4 ∧ x4 < el.len, 0 ≤ ed ∧ ed < ge.len, ge.len ≤ 1000000, (el.el x4.toNat 2).len ≤ 1000000, ks.len ≤ 900], nw := [(0, .orow 53 (itD I.len n (rcvZ n x3 (rcvV (el.el x4.toNat 2) x5) (e, f)))), (1, .orow 53 (cn)), (2, .orow 93 (ru)), (3, .orow 3 (kD ks 5 (rcvB ge ed (el.el x4.toNat 2))))] }, [.c (.rows 73 (ch)), .c (.rows 35 (gr)), .c (.rows 3 (va)), .c (.rows 75 (el)), .c (.rows 4 (df)), .c (.int .i64 (.sym gn)), .c (.rows 31 (ge)), .c (.rows 3 (gh)), .c (.int .i64 (.sym ed)), .c (.bool (.sym (rcvZ n x3 (rcvV (el.el x4.toNat 2) x5) (e, f) : Zs).1)), .c (.osl 53 0 (.lit 0) (.sym (I.len))), .c (.int .i64 (.sym (n))), .c (.bool (.sym (rcvZ n x3 (rcvV (el.el x4.toNat 2) x5) (e, f) : Zs).1)), .ints .i64 (.lit 49) (rcvZ n x3 (rcvV (el.el x4.toNat 2) x5) (e, f) : Zs).2, .c (.osl 53 1 (.lit 0) (.sym ((cn).len))), .c (.osl 93 2 (.lit 0) (.sym ((ru).len))), .c (.int .i64 (.sym (sc))), .c (.int .i64 (.sym (sg))), .c (.int .i64 (.sym (s0))), .c (.int .i64 (.sym (s1))), .c (.osl 3 3 (.lit 0) (.sym ((kD ks 5 (rcvB ge ed (el.el x4.toNat 2))).len)))])
  | _ => none
noncomputable def wpassC : Con := conM 101 [.c (.rows 73), .c (.rows 35), .c (.rows 3), .c (.rows 75), .c (.rows 4), .c (.int .i64), .c (.rows 31), .c (.rows 3), .c (.int .i64), .c .bool, .own 53, .c (.int .i64), .c .bool, .ints .i64 49, .own 53, .own 93, .c (.int .i64), .c (.int .i64), .c (.int .i64), .c (.int .i64), .own 3] [edgeA] wpassS
theorem wpass_ok : ConOK Tryz.prog 32 wpassC := by
  refine fn_obM tt_ok mixed Tryz.func32 rfl (fun _ _ => by kernel_rfl) (A := fun ds => ⟨fun _ => Cons.of [(65, wrecvC)], fun _ => none, fun _ => none⟩) (fun _ _ => (cons_cons wrecv_ok cons_nil)) (by kernel_rfl) ?_
  intro ds
  unfold wpassS
  split
  · rename_i ch gr va el df gn ge gh ed c I n e f cn ru sc sg s0 s1 ks x0 x1 x2 x3 x4 x5 qk qm qv qd op k m v d k2 m2 v2 d2
    refine kmp (q := x2 = (4 : Int) → Good n (e, f) → I.len ≤ 1000 → (0 : Int) ≤ x4 ∧ x4 < (↑el.len : Int) → (0 : Int) ≤ ed ∧ ed < (↑ge.len : Int) → ge.len ≤ 1000000 → (el.el x4.toNat 2).len ≤ 1000000 → ks.len ≤ 900 → ((x2 == (0 : Int)) = true → true = true ∧ ch.rows = ch.rows ∧ gr.rows = gr.rows ∧ va.rows = va.rows ∧ el.rows = el.rows ∧ df.rows = df.rows ∧ gn = gn ∧ ge.rows = ge.rows ∧ gh.rows = gh.rows ∧ ed = ed ∧ c = (rcvZ n x3 (rcvV (el.el x4.toNat 2) x5) (e, f)).fst ∧ I.len = I.len ∧ n = n ∧ e = (rcvZ n x3 (rcvV (el.el x4.toNat 2) x5) (e, f)).fst ∧ (∀ (o : Nat), o < 49 → f o = (rcvZ n x3 (rcvV (el.el x4.toNat 2) x5) (e, f)).snd o) ∧ cn.len = cn.len ∧ ru.len = ru.len ∧ sc = sc ∧ sg = sg ∧ s0 = s0 ∧ s1 = s1 ∧ ks.len = (kD ks (5 : Int) (rcvB ge ed (el.el x4.toNat 2))).len ∧ I.rows = List.map (fun (j : Nat) => [D.i (itvLo n (rcvZ n x3 (rcvV (el.el x4.toNat 2) x5) (e, f)).fst (rcvZ n x3 (rcvV (el.el x4.toNat 2) x5) (e, f)).snd (↑j : Int)), D.i (itvHi n (rcvZ n x3 (rcvV (el.el x4.toNat 2) x5) (e, f)).fst (rcvZ n x3 (rcvV (el.el x4.toNat 2) x5) (e, f)).snd (↑j : Int))]) (List.range I.len) ∧ cn.rows = cn.rows ∧ ru.rows = ru.rows ∧ ks.rows = (kD ks (5 : Int) (rcvB ge ed (el.el x4.toNat 2))).rows) ∧ ((x2 == (0 : Int)) = false → ((x2 == (1 : Int)) = true → False) ∧ ((x2 == (1 : Int)) = false → ((x2 == (2 : Int)) = true → False) ∧ ((x2 == (2 : Int)) = false → ((x2 == (5 : Int)) = true → False) ∧ ((x2 == (5 : Int)) = false → ((x2 == (6 : Int)) = true → False) ∧ ((x2 == (6 : Int)) = false → ((x2 == (3 : Int)) = true → False) ∧ ((x2 == (3 : Int)) = false → ((x2 == (4 : Int)) = true → 0 = 0 ∧ I.len = I.len ∧ 0 = 0 ∧ cn.len = cn.len ∧ 0 = 0 ∧ ru.len = ru.len ∧ 0 = 0 ∧ ks.len = ks.len ∧ Good n (e, f) ∧ I.len ≤ 1000 ∧ ((0 : Int) ≤ x4 ∧ x4 < (↑el.len : Int)) ∧ ((0 : Int) ≤ ed ∧ ed < (↑ge.len : Int)) ∧ ge.len ≤ 1000000 ∧ (el.el x4.toNat 2).len ≤ 1000000 ∧ ks.len ≤ 900 ∧ true = true ∧ ch.rows = ch.rows ∧ gr.rows = gr.rows ∧ va.rows = va.rows ∧ el.rows = el.rows ∧ df.rows = df.rows ∧ gn = gn ∧ ge.rows = ge.rows ∧ gh.rows = gh.rows ∧ ed = ed ∧ (rcvZ n x3 (rcvV (el.el x4.toNat 2) x5) (e, f)).fst = (rcvZ n x3 (rcvV (el.el x4.toNat 2) x5) (e, f)).fst ∧ I.len = I.len ∧ n = n ∧ (rcvZ n x3 (rcvV (el.el x4.toNat 2) x5) (e, f)).fst = (rcvZ n x3 (rcvV (el.el x4.toNat 2) x5) (e, f)).fst ∧ (∀ (o : Nat), o < 49 → (rcvZ n x3 (rcvV (el.el x4.toNat 2) x5) (e, f)).snd o = (rcvZ n x3 (rcvV (el.el x4.toNat 2) x5) (e, f)).snd o) ∧ cn.len = cn.len ∧ ru.len = ru.len ∧ sc = sc ∧ sg = sg ∧ s0 = s0 ∧ s1 = s1 ∧ (kD ks (5 : Int) (rcvB ge ed (el.el x4.toNat 2))).len = (kD ks (5 : Int) (rcvB ge ed (el.el x4.toNat 2))).len ∧ List.map (fun (j : Nat) => [D.i (itvLo n (rcvZ n x3 (rcvV (el.el x4.toNat 2) x5) (e, f)).fst (rcvZ n x3 (rcvV (el.el x4.toNat 2) x5) (e, f)).snd (↑j : Int)), D.i (itvHi n (rcvZ n x3 (rcvV (el.el x4.toNat 2) x5) (e, f)).fst (rcvZ n x3 (rcvV (el.el x4.toNat 2) x5) (e, f)).snd (↑j : Int))]) (List.range I.len) = List.map (fun (j : Nat) => [D.i (itvLo n (rcvZ n x3 (rcvV (el.el x4.toNat 2) x5) (e, f)).fst (rcvZ n x3 (rcvV (el.el x4.toNat 2) x5) (e, f)).snd (↑j : Int)), D.i (itvHi n (rcvZ n x3 (rcvV (el.el x4.toNat 2) x5) (e, f)).fst (rcvZ n x3 (rcvV (el.el x4.toNat 2) x5) (e, f)).snd (↑j : Int))]) (List.range I.len) ∧ cn.rows = cn.rows ∧ ru.rows = ru.rows ∧ (kD ks (5 : Int) (rcvB ge ed (el.el x4.toNat 2))).rows = (kD ks (5 : Int) (rcvB ge ed (el.el x4.toNat 2))).rows) ∧ ((x2 == (4 : Int)) = false → false = true ∧ ch.rows = ch.rows ∧ gr.rows = gr.rows ∧ va.rows = va.rows ∧ el.rows = el.rows ∧ df.rows = df.rows ∧ gn = gn ∧ ge.rows = ge.rows ∧ gh.rows = gh.rows ∧ ed = ed ∧ c = (rcvZ n x3 (rcvV (el.el x4.toNat 2) x5) (e, f)).fst ∧ I.len = I.len ∧ n = n ∧ e = (rcvZ n x3 (rcvV (el.el x4.toNat 2) x5) (e, f)).fst ∧ (∀ (o : Nat), o < 49 → f o = (rcvZ n x3 (rcvV (el.el x4.toNat 2) x5) (e, f)).snd o) ∧ cn.len = cn.len ∧ ru.len = ru.len ∧ sc = sc ∧ sg = sg ∧ s0 = s0 ∧ s1 = s1 ∧ ks.len = (kD ks (5 : Int) (rcvB ge ed (el.el x4.toNat 2))).len ∧ I.rows = List.map (fun (j : Nat) => [D.i (itvLo n (rcvZ n x3 (rcvV (el.el x4.toNat 2) x5) (e, f)).fst (rcvZ n x3 (rcvV (el.el x4.toNat 2) x5) (e, f)).snd (↑j : Int)), D.i (itvHi n (rcvZ n x3 (rcvV (el.el x4.toNat 2) x5) (e, f)).fst (rcvZ n x3 (rcvV (el.el x4.toNat 2) x5) (e, f)).snd (↑j : Int))]) (List.range I.len) ∧ cn.rows = cn.rows ∧ ru.rows = ru.rows ∧ ks.rows = (kD ks (5 : Int) (rcvB ge ed (el.el x4.toNat 2))).rows)))))))) (by kernel_rfl) ?_
    intro h3 hg hI h4 h0 hc hl hk
    subst h3
    refine ⟨fun h => absurd h (by decide), fun _ => ⟨fun h => absurd h (by decide), fun _ => ⟨fun h => absurd h (by decide), fun _ => ⟨fun h => absurd h (by decide), fun _ => ⟨fun h => absurd h (by decide), fun _ => ⟨fun h => absurd h (by decide), fun _ => ⟨fun _ => ?_, fun h => absurd h (by decide)⟩⟩⟩⟩⟩⟩⟩
    (repeat' apply And.intro) <;> first | rfl | assumption | omega | (intro _ _; rfl)
  · trivial
noncomputable def wcopiedS : List Dat → Option Eff := fun ds => match ds with
  | [.b c, .d I, .i n, .b e, .f f, .d cn, .d ru] => some { val := .one (.agg [.c (.bool (.sym c)), .c (.osl 53 0 (.lit 0) (.sym (I.len))), .c (.int .i64 (.sym n)), .c (.bool (.sym e)), .ints .i64 (.lit 49) f, .c (.osl 53 1 (.lit 0) (.sym cn.len)), .c (.osl 93 2 (.lit 0) (.sym ru.len))]), vc := [0 < I.len ∧ I.len ≤ 1000, 0 < cn.len ∧ cn.len ≤ 1000, 0 < ru.len ∧ ru.len ≤ 1000], nw := [(0, .orow 53 I), (1, .orow 53 cn), (2, .orow 93 ru)] }
  | _ => none
noncomputable def wcopiedC : Con := conS [stateA] wcopiedS
theorem wcopied_ok : ConOK Tryz.prog 31 wcopiedC := by
  refine fn_obS tt_ok mixed Tryz.func31 rfl (fun _ _ => by kernel_rfl) (A := fun ds => ⟨fun _ => Cons.of [(58, ucloneC), (59, usclC)], fun _ => none, fun _ => none⟩) (fun _ _ => (cons_cons uclone_ok (cons_cons uscl_ok cons_nil))) (by kernel_rfl) ?_
  intro ds
  unfold wcopiedS
  split
  · rename_i c I n e f cn ru
    refine kmp (q := 0 < I.len ∧ I.len ≤ 1000 → 0 < cn.len ∧ cn.len ≤ 1000 → 0 < ru.len ∧ ru.len ≤ 1000 → (0 < I.len ∧ I.len ≤ 1000) ∧ (0 < cn.len ∧ cn.len ≤ 1000) ∧ (0 < ru.len ∧ ru.len ≤ 1000) ∧ c = c ∧ I.len = I.len ∧ n = n ∧ e = e ∧ (∀ (o : Nat), o < 49 → f o = f o) ∧ cn.len = cn.len ∧ ru.len = ru.len ∧ I.rows = I.rows ∧ cn.rows = cn.rows ∧ ru.rows = ru.rows) (by kernel_rfl) ?_
    intro h1 h2 h3
    (repeat' apply And.intro) <;> first | rfl | exact h1.1 | exact h1.2 | exact h2.1 | exact h2.2 | exact h3.1 | exact h3.2 | (intro _ _; rfl)
  · trivial
noncomputable def wstepS : List Dat → Option Eff := fun ds => match ds with
  | [.d ch, .d gr, .d _va, .d el, .d _df, .i p, .i q, .b c, .d I, .i n, .b e, .f f, .d cn, .d ru] => some { val := .tup [.agg [.c (.bool (.sym (rcvZ n (edC gr p q 3).toI (rcvV (el.el (edC gr p q 4).toI.toNat 2) (edC gr p q 5).toI) (e, f) : Zs).1)), .c (.osl 53 0 (.lit 0) (.sym (I.len))), .c (.int .i64 (.sym (n))), .c (.bool (.sym (rcvZ n (edC gr p q 3).toI (rcvV (el.el (edC gr p q 4).toI.toNat 2) (edC gr p q 5).toI) (e, f) : Zs).1)), .ints .i64 (.lit 49) (rcvZ n (edC gr p q 3).toI (rcvV (el.el (edC gr p q 4).toI.toNat 2) (edC gr p q 5).toI) (e, f) : Zs).2, .c (.osl 53 1 (.lit 0) (.sym cn.len)), .c (.osl 93 2 (.lit 0) (.sym ru.len))], .agg [.c (.int .i64 (.sym (-1))), .c (.int .i64 (.sym (0))), .c (.int .i64 (.sym (1))), .c (.int .i64 (.sym (0)))], .sc (.osl 3 3 (.lit 0) (.sym (kD (.l []) 5 (rcvB (gr.el p.toNat 1) q (el.el (edC gr p q 4).toI.toNat 2))).len))], vc := [Good n (e, f), 0 < I.len ∧ I.len ≤ 1000, 0 ≤ (edC gr p q 4).toI ∧ (edC gr p q 4).toI < el.len, (gr.el p.toNat 1).len ≤ 1000000, (el.el (edC gr p q 4).toI.toNat 2).len ≤ 1000000, c = false, edgeB ch gr p q = true, 0 < ch.len ∧ ch.len ≤ 1000, cn.len = ch.len, ru.len = ch.len, (edC gr p q 2).toI = 4, (kD (.l []) 5 (rcvB (gr.el p.toNat 1) q (el.el (edC gr p q 4).toI.toNat 2))).len ≤ 1, (rcvZ n (edC gr p q 3).toI (rcvV (el.el (edC gr p q 4).toI.toNat 2) (edC gr p q 5).toI) (e, f) : Zs).1 = false], nw := [(0, .orow 53 (itD I.len n (rcvZ n (edC gr p q 3).toI (rcvV (el.el (edC gr p q 4).toI.toNat 2) (edC gr p q 5).toI) (e, f)))), (1, .orow 53 cn), (2, .orow 93 ru), (3, .orow 3 (kD (.l []) 5 (rcvB (gr.el p.toNat 1) q (el.el (edC gr p q 4).toI.toNat 2))))] }
  | _ => none
noncomputable def wstepC : Con := conS [worldA, iA, iA, stateA] wstepS
theorem wstep_ok : ConOK Tryz.prog 9 wstepC := by
  refine fn_obS tt_ok mixed Tryz.func9 rfl (fun _ _ => by kernel_rfl) (A := fun ds => ⟨fun _ => Cons.of [(11, temptyC), (27, tisedgeC), (28, tfitsC), (29, tnoneC), (30, tnothingC), (31, wcopiedC), (32, wpassC), (33, ssortC)], fun _ => none, fun _ => none⟩) (fun _ _ => (cons_cons tempty_ok (cons_cons tisedge_ok (cons_cons tfits_ok (cons_cons tnone_ok (cons_cons tnothing_ok (cons_cons wcopied_ok (cons_cons wpass_ok (cons_cons ssort_ok cons_nil))))))))) (by kernel_rfl) ?_
  intro ds
  unfold wstepS
  split
  · rename_i ch gr va el df p q c I n e f cn ru
    refine kmp (q := Good n (e, f) → 0 < I.len ∧ I.len ≤ 1000 → (0 : Int) ≤ (edC gr p q 4).toI ∧ (edC gr p q 4).toI < (↑el.len : Int) → (gr.el p.toNat 1).len ≤ 1000000 → (el.el (edC gr p q 4).toI.toNat 2).len ≤ 1000000 → c = false → edgeB ch gr p q = true → 0 < ch.len ∧ ch.len ≤ 1000 → cn.len = ch.len → ru.len = ch.len → (edC gr p q 2).toI = (4 : Int) → (kD (D.l []) (5 : Int) (rcvB (gr.el p.toNat 1) q (el.el (edC gr p q 4).toI.toNat 2))).len ≤ 1 → (rcvZ n (edC gr p q 3).toI (rcvV (el.el (edC gr p q 4).toI.toNat 2) (edC gr p q 5).toI) (e, f)).fst = false → ((c || !edgeB ch gr p q || !((↑cn.len : Int) == (↑ch.len : Int) && (↑ru.len : Int) == (↑ch.len : Int))) = true → ch.len ≤ 1000 ∧ False) ∧ ((c || !edgeB ch gr p q || !((↑cn.len : Int) == (↑ch.len : Int) && (↑ru.len : Int) == (↑ch.len : Int))) = false → ((0 : Int) ≤ p ∧ p < (↑gr.len : Int)) ∧ (0 < I.len ∧ I.len ≤ 1000) ∧ (0 < cn.len ∧ cn.len ≤ 1000) ∧ (0 < ru.len ∧ ru.len ≤ 1000) ∧ ((0 : Int) ≤ q ∧ q < (↑(gr.el p.toNat (0 + 1)).len : Int)) ∧ 0 = 0 ∧ I.len = I.len ∧ 0 = 0 ∧ cn.len = cn.len ∧ 0 = 0 ∧ ru.len = ru.len ∧ ((gr.el p.toNat (0 + 1)).el q.toNat (0 + 1 + 1)).toI = (4 : Int) ∧ Good n (e, f) ∧ I.len ≤ 1000 ∧ ((0 : Int) ≤ ((gr.el p.toNat (0 + 1)).el q.toNat (0 + 1 + 1 + 1 + 1)).toI ∧ ((gr.el p.toNat (0 + 1)).el q.toNat (0 + 1 + 1 + 1 + 1)).toI < (↑el.len : Int)) ∧ ((0 : Int) ≤ q ∧ q < (↑(gr.el p.toNat (0 + 1)).len : Int)) ∧ (gr.el p.toNat (0 + 1)).len ≤ 1000000 ∧ (el.el ((gr.el p.toNat (0 + 1)).el q.toNat (0 + 1 + 1 + 1 + 1)).toI.toNat 2).len ≤ 1000000 ∧ (D.l []).len ≤ 900 ∧ 0 + (kD (D.l []) (5 : Int) (rcvB (gr.el p.toNat (0 + 1)) q (el.el ((gr.el p.toNat (0 + 1)).el q.toNat (0 + 1 + 1 + 1 + 1)).toI.toNat 2))).len ≤ (kD (D.l []) (5 : Int) (rcvB (gr.el p.toNat (0 + 1)) q (el.el ((gr.el p.toNat (0 + 1)).el q.toNat (0 + 1 + 1 + 1 + 1)).toI.toNat 2))).len ∧ ((kD (D.l []) (5 : Int) (rcvB (gr.el p.toNat (0 + 1)) q (el.el ((gr.el p.toNat (0 + 1)).el q.toNat (0 + 1 + 1 + 1 + 1)).toI.toNat 2))).sub (0) (0 + (kD (D.l []) (5 : Int) (rcvB (gr.el p.toNat (0 + 1)) q (el.el ((gr.el p.toNat (0 + 1)).el q.toNat (0 + 1 + 1 + 1 + 1)).toI.toNat 2))).len)).len ≤ 1 ∧ 0 + I.len ≤ (itD I.len n (rcvZ n ((gr.el p.toNat (0 + 1)).el q.toNat (0 + 1 + 1 + 1)).toI (rcvV (el.el ((gr.el p.toNat (0 + 1)).el q.toNat (0 + 1 + 1 + 1 + 1)).toI.toNat 2) ((gr.el p.toNat (0 + 1)).el q.toNat (0 + 1 + 1 + 1 + 1 + 1)).toI) (e, f))).len ∧ 0 + cn.len ≤ cn.len ∧ 0 + ru.len ≤ ru.len ∧ ((rcvZ n ((gr.el p.toNat (0 + 1)).el q.toNat (0 + 1 + 1 + 1)).toI (rcvV (el.el ((gr.el p.toNat (0 + 1)).el q.toNat (0 + 1 + 1 + 1 + 1)).toI.toNat 2) ((gr.el p.toNat (0 + 1)).el q.toNat (0 + 1 + 1 + 1 + 1 + 1)).toI) (e, f)).fst = true → ch.len ≤ 1000 ∧ False) ∧ ((rcvZ n ((gr.el p.toNat (0 + 1)).el q.toNat (0 + 1 + 1 + 1)).toI (rcvV (el.el ((gr.el p.toNat (0 + 1)).el q.toNat (0 + 1 + 1 + 1 + 1)).toI.toNat 2) ((gr.el p.toNat (0 + 1)).el q.toNat (0 + 1 + 1 + 1 + 1 + 1)).toI) (e, f)).fst = false → (rcvZ n ((gr.el p.toNat (0 + 1)).el q.toNat (0 + 1 + 1 + 1)).toI (rcvV (el.el ((gr.el p.toNat (0 + 1)).el q.toNat (0 + 1 + 1 + 1 + 1)).toI.toNat 2) ((gr.el p.toNat (0 + 1)).el q.toNat (0 + 1 + 1 + 1 + 1 + 1)).toI) (e, f)).fst = (rcvZ n (edC gr p q 3).toI (rcvV (el.el (edC gr p q 4).toI.toNat 2) (edC gr p q 5).toI) (e, f)).fst ∧ I.len = I.len ∧ n = n ∧ (rcvZ n ((gr.el p.toNat (0 + 1)).el q.toNat (0 + 1 + 1 + 1)).toI (rcvV (el.el ((gr.el p.toNat (0 + 1)).el q.toNat (0 + 1 + 1 + 1 + 1)).toI.toNat 2) ((gr.el p.toNat (0 + 1)).el q.toNat (0 + 1 + 1 + 1 + 1 + 1)).toI) (e, f)).fst = (rcvZ n (edC gr p q 3).toI (rcvV (el.el (edC gr p q 4).toI.toNat 2) (edC gr p q 5).toI) (e, f)).fst ∧ (∀ (o : Nat), o < 49 → (rcvZ n ((gr.el p.toNat (0 + 1)).el q.toNat (0 + 1 + 1 + 1)).toI (rcvV (el.el ((gr.el p.toNat (0 + 1)).el q.toNat (0 + 1 + 1 + 1 + 1)).toI.toNat 2) ((gr.el p.toNat (0 + 1)).el q.toNat (0 + 1 + 1 + 1 + 1 + 1)).toI) (e, f)).snd o = (rcvZ n (edC gr p q 3).toI (rcvV (el.el (edC gr p q 4).toI.toNat 2) (edC gr p q 5).toI) (e, f)).snd o) ∧ cn.len = cn.len ∧ ru.len = ru.len ∧ (-1 : Int) = (-1 : Int) ∧ (0 : Int) = (0 : Int) ∧ (1 : Int) = (1 : Int) ∧ (0 : Int) = (0 : Int) ∧ (kD (D.l []) (5 : Int) (rcvB (gr.el p.toNat (0 + 1)) q (el.el ((gr.el p.toNat (0 + 1)).el q.toNat (0 + 1 + 1 + 1 + 1)).toI.toNat 2))).len = (kD (D.l []) (5 : Int) (rcvB (gr.el p.toNat 1) q (el.el (edC gr p q 4).toI.toNat 2))).len ∧ List.map (fun (j : Nat) => [D.i (itvLo n (rcvZ n ((gr.el p.toNat (0 + 1)).el q.toNat (0 + 1 + 1 + 1)).toI (rcvV (el.el ((gr.el p.toNat (0 + 1)).el q.toNat (0 + 1 + 1 + 1 + 1)).toI.toNat 2) ((gr.el p.toNat (0 + 1)).el q.toNat (0 + 1 + 1 + 1 + 1 + 1)).toI) (e, f)).fst (rcvZ n ((gr.el p.toNat (0 + 1)).el q.toNat (0 + 1 + 1 + 1)).toI (rcvV (el.el ((gr.el p.toNat (0 + 1)).el q.toNat (0 + 1 + 1 + 1 + 1)).toI.toNat 2) ((gr.el p.toNat (0 + 1)).el q.toNat (0 + 1 + 1 + 1 + 1 + 1)).toI) (e, f)).snd (↑j : Int)), D.i (itvHi n (rcvZ n ((gr.el p.toNat (0 + 1)).el q.toNat (0 + 1 + 1 + 1)).toI (rcvV (el.el ((gr.el p.toNat (0 + 1)).el q.toNat (0 + 1 + 1 + 1 + 1)).toI.toNat 2) ((gr.el p.toNat (0 + 1)).el q.toNat (0 + 1 + 1 + 1 + 1 + 1)).toI) (e, f)).fst (rcvZ n ((gr.el p.toNat (0 + 1)).el q.toNat (0 + 1 + 1 + 1)).toI (rcvV (el.el ((gr.el p.toNat (0 + 1)).el q.toNat (0 + 1 + 1 + 1 + 1)).toI.toNat 2) ((gr.el p.toNat (0 + 1)).el q.toNat (0 + 1 + 1 + 1 + 1 + 1)).toI) (e, f)).snd (↑j : Int))]) (List.range I.len) = List.map (fun (j : Nat) => [D.i (itvLo n (rcvZ n (edC gr p q 3).toI (rcvV (el.el (edC gr p q 4).toI.toNat 2) (edC gr p q 5).toI) (e, f)).fst (rcvZ n (edC gr p q 3).toI (rcvV (el.el (edC gr p q 4).toI.toNat 2) (edC gr p q 5).toI) (e, f)).snd (↑j : Int)), D.i (itvHi n (rcvZ n (edC gr p q 3).toI (rcvV (el.el (edC gr p q 4).toI.toNat 2) (edC gr p q 5).toI) (e, f)).fst (rcvZ n (edC gr p q 3).toI (rcvV (el.el (edC gr p q 4).toI.toNat 2) (edC gr p q 5).toI) (e, f)).snd (↑j : Int))]) (List.range I.len) ∧ cn.rows = cn.rows ∧ ru.rows = ru.rows ∧ (kD (D.l []) (5 : Int) (rcvB (gr.el p.toNat (0 + 1)) q (el.el ((gr.el p.toNat (0 + 1)).el q.toNat (0 + 1 + 1 + 1 + 1)).toI.toNat 2))).rows = (kD (D.l []) (5 : Int) (rcvB (gr.el p.toNat 1) q (el.el (edC gr p q 4).toI.toNat 2))).rows))) (by kernel_rfl) ?_
    intro hg hI hx4 hgl hel hc hE hch hcn hru hk h1 hz
    have hb : (c || !edgeB ch gr p q || !((cn.len : Int) == (ch.len : Int) && (ru.len : Int) == (ch.len : Int))) = false := by rw [hc, hE, hcn, hru]; simp
    have hpq : plB p gr.len = true ∧ plB q (gr.el p.toNat 1).len = true := by
      have hE := hE
      unfold edgeB at hE
      split at hE
      · cases hE
      · rename_i hh; simpa using hh
    have hpl : ∀ {a b : Int}, plB a b = true → 0 ≤ a ∧ a < b := fun {a b} h => by unfold plB at h; simp at h; omega
    have hpp := hpl hpq.1
    have hqq := hpl hpq.2
    have hed : ∀ j, (gr.el p.toNat 1).el q.toNat j = edC gr p q j := fun _ => rfl
    refine ⟨fun h => absurd (hb.symm.trans h) (by decide), fun _ => ?_⟩
    have hsub : ∀ d : D, (d.sub 0 d.len).rows = d.rows := fun d => (congrArg (List.drop 0) (List.take_length)).trans rfl
    have htk : ∀ d : D, List.drop 0 (List.take d.len d.rows) = d.rows := fun d => hsub d
    have hsl : ∀ d : D, (d.sub 0 d.len).len = d.len := fun d => by show (d.sub 0 d.len).rows.length = d.len; rw [hsub]; rfl
    have h0 : (D.l []).len ≤ 900 := by show 0 ≤ 900; omega
    have hcl : 0 < cn.len ∧ cn.len ≤ 1000 := by omega
    have hrl : 0 < ru.len ∧ ru.len ≤ 1000 := by omega
    simp only [Nat.zero_add, Nat.reduceAdd, hed, hsl, itD_len, hk, h1, h0, hg, hI, hx4, hgl, hel, hpp, hqq, hcl, hrl, hch, hz, true_and, and_true, implies_true, Nat.le_refl, Bool.false_eq_true, false_implies]
  · trivial
noncomputable def wnoneS : FSpec := fun ds _ => match ds with
  | [.d ch, .d gr, .d va, .d el, .d _df, .i p, .i q, .b c, .d I, .i n, .b e, .f f, .d cn, .d ru] => some { val := .tup [.agg [.c (.bool (.sym ((true, fun _ => 0) : Zs).1)), .c (.rows 53 (itD ((topN (varP va p)).toNat) (topN (varP va p)) ((true, fun _ => 0)))), .c (.int .i64 (.sym (topN (varP va p)))), .c (.bool (.sym ((true, fun _ => 0) : Zs).1)), .ints .i64 (.lit 49) ((true, fun _ => 0) : Zs).2, .c (.rows 53 (repD ch.len [.i 1, .i 0])), .c (.rows 93 (repD ch.len [.i 0]))], .agg [.c (.int .i64 (.sym (-1))), .c (.int .i64 (.sym (0))), .c (.int .i64 (.sym (1))), .c (.int .i64 (.sym (0)))], .sc (.rows 3 (kD (.l []) 5 (rcvB (gr.el p.toNat 1) q (el.el (edC gr p q 4).toI.toNat 2))))], vc := [Good n (e, f), 0 < I.len ∧ I.len ≤ 1000, 0 ≤ (edC gr p q 4).toI ∧ (edC gr p q 4).toI < el.len, (gr.el p.toNat 1).len ≤ 1000000, (el.el (edC gr p q 4).toI.toNat 2).len ≤ 1000000, c = false, edgeB ch gr p q = true, 0 < ch.len ∧ ch.len ≤ 1000, cn.len = ch.len, ru.len = ch.len, (edC gr p q 2).toI = 4, (kD (.l []) 5 (rcvB (gr.el p.toNat 1) q (el.el (edC gr p q 4).toI.toNat 2))).len ≤ 1, (rcvZ n (edC gr p q 3).toI (rcvV (el.el (edC gr p q 4).toI.toNat 2) (edC gr p q 5).toI) (e, f) : Zs).1 = true] }
  | _ => none
noncomputable def wnoneC : Con := con [worldA, iA, iA, stateA] wnoneS
theorem wnone_ok : ConOK Tryz.prog 9 wnoneC := by
  refine fn_ob tt_ok mixed Tryz.func9 rfl (fun _ _ => by kernel_rfl) (A := fun ds => ⟨fun _ => Cons.of [(11, temptyC), (27, tisedgeC), (28, tfitsC), (29, tnoneC), (30, tnothingC), (31, wcopiedC), (32, wpassC), (33, ssortC)], fun _ => none, fun _ => none⟩) (fun _ _ => (cons_cons tempty_ok (cons_cons tisedge_ok (cons_cons tfits_ok (cons_cons tnone_ok (cons_cons tnothing_ok (cons_cons wcopied_ok (cons_cons wpass_ok (cons_cons ssort_ok cons_nil))))))))) (by kernel_rfl) ?_
  intro ds fr
  unfold wnoneS
  split
  · rename_i ch gr va el df p q c I n e f cn ru
    refine kmp (q := Good n (e, f) → 0 < I.len ∧ I.len ≤ 1000 → (0 : Int) ≤ (edC gr p q 4).toI ∧ (edC gr p q 4).toI < (↑el.len : Int) → (gr.el p.toNat 1).len ≤ 1000000 → (el.el (edC gr p q 4).toI.toNat 2).len ≤ 1000000 → c = false → edgeB ch gr p q = true → 0 < ch.len ∧ ch.len ≤ 1000 → cn.len = ch.len → ru.len = ch.len → (edC gr p q 2).toI = (4 : Int) → (kD (D.l []) (5 : Int) (rcvB (gr.el p.toNat 1) q (el.el (edC gr p q 4).toI.toNat 2))).len ≤ 1 → (rcvZ n (edC gr p q 3).toI (rcvV (el.el (edC gr p q 4).toI.toNat 2) (edC gr p q 5).toI) (e, f)).fst = true → ((c || !edgeB ch gr p q || !((↑cn.len : Int) == (↑ch.len : Int) && (↑ru.len : Int) == (↑ch.len : Int))) = true → ch.len ≤ 1000 ∧ true = true ∧ List.map (fun (j : Nat) => [D.i (itvLo (topN (varP va p)) true (fun (x : Nat) => (0 : Int)) (↑j : Int)), D.i (itvHi (topN (varP va p)) true (fun (x : Nat) => (0 : Int)) (↑j : Int))]) (List.range (topN (varP va p)).toNat) = List.map (fun (j : Nat) => [D.i (itvLo (topN (varP va p)) true (fun (x : Nat) => (0 : Int)) (↑j : Int)), D.i (itvHi (topN (varP va p)) true (fun (x : Nat) => (0 : Int)) (↑j : Int))]) (List.range (topN (varP va p)).toNat) ∧ topN (varP va p) = topN (varP va p) ∧ true = true ∧ (∀ (o : Nat), o < 49 → (0 : Int) = (0 : Int)) ∧ List.replicate ch.len [D.i (1 : Int), D.i (0 : Int)] = List.replicate ch.len [D.i (1 : Int), D.i (0 : Int)] ∧ List.replicate ch.len [D.i (0 : Int)] = List.replicate ch.len [D.i (0 : Int)] ∧ (-1 : Int) = (-1 : Int) ∧ (0 : Int) = (0 : Int) ∧ (1 : Int) = (1 : Int) ∧ (0 : Int) = (0 : Int) ∧ (kD (D.l []) (5 : Int) (rcvB (gr.el p.toNat 1) q (el.el (edC gr p q 4).toI.toNat 2))).rows = []) ∧ ((c || !edgeB ch gr p q || !((↑cn.len : Int) == (↑ch.len : Int) && (↑ru.len : Int) == (↑ch.len : Int))) = false → ((0 : Int) ≤ p ∧ p < (↑gr.len : Int)) ∧ (0 < I.len ∧ I.len ≤ 1000) ∧ (0 < cn.len ∧ cn.len ≤ 1000) ∧ (0 < ru.len ∧ ru.len ≤ 1000) ∧ ((0 : Int) ≤ q ∧ q < (↑(gr.el p.toNat (0 + 1)).len : Int)) ∧ 0 = 0 ∧ I.len = I.len ∧ 0 = 0 ∧ cn.len = cn.len ∧ 0 = 0 ∧ ru.len = ru.len ∧ ((gr.el p.toNat (0 + 1)).el q.toNat (0 + 1 + 1)).toI = (4 : Int) ∧ Good n (e, f) ∧ I.len ≤ 1000 ∧ ((0 : Int) ≤ ((gr.el p.toNat (0 + 1)).el q.toNat (0 + 1 + 1 + 1 + 1)).toI ∧ ((gr.el p.toNat (0 + 1)).el q.toNat (0 + 1 + 1 + 1 + 1)).toI < (↑el.len : Int)) ∧ ((0 : Int) ≤ q ∧ q < (↑(gr.el p.toNat (0 + 1)).len : Int)) ∧ (gr.el p.toNat (0 + 1)).len ≤ 1000000 ∧ (el.el ((gr.el p.toNat (0 + 1)).el q.toNat (0 + 1 + 1 + 1 + 1)).toI.toNat 2).len ≤ 1000000 ∧ (D.l []).len ≤ 900 ∧ 0 + (kD (D.l []) (5 : Int) (rcvB (gr.el p.toNat (0 + 1)) q (el.el ((gr.el p.toNat (0 + 1)).el q.toNat (0 + 1 + 1 + 1 + 1)).toI.toNat 2))).len ≤ (kD (D.l []) (5 : Int) (rcvB (gr.el p.toNat (0 + 1)) q (el.el ((gr.el p.toNat (0 + 1)).el q.toNat (0 + 1 + 1 + 1 + 1)).toI.toNat 2))).len ∧ ((kD (D.l []) (5 : Int) (rcvB (gr.el p.toNat (0 + 1)) q (el.el ((gr.el p.toNat (0 + 1)).el q.toNat (0 + 1 + 1 + 1 + 1)).toI.toNat 2))).sub (0) (0 + (kD (D.l []) (5 : Int) (rcvB (gr.el p.toNat (0 + 1)) q (el.el ((gr.el p.toNat (0 + 1)).el q.toNat (0 + 1 + 1 + 1 + 1)).toI.toNat 2))).len)).len ≤ 1 ∧ 0 + I.len ≤ (itD I.len n (rcvZ n ((gr.el p.toNat (0 + 1)).el q.toNat (0 + 1 + 1 + 1)).toI (rcvV (el.el ((gr.el p.toNat (0 + 1)).el q.toNat (0 + 1 + 1 + 1 + 1)).toI.toNat 2) ((gr.el p.toNat (0 + 1)).el q.toNat (0 + 1 + 1 + 1 + 1 + 1)).toI) (e, f))).len ∧ 0 + cn.len ≤ cn.len ∧ 0 + ru.len ≤ ru.len ∧ ((rcvZ n ((gr.el p.toNat (0 + 1)).el q.toNat (0 + 1 + 1 + 1)).toI (rcvV (el.el ((gr.el p.toNat (0 + 1)).el q.toNat (0 + 1 + 1 + 1 + 1)).toI.toNat 2) ((gr.el p.toNat (0 + 1)).el q.toNat (0 + 1 + 1 + 1 + 1 + 1)).toI) (e, f)).fst = true → ch.len ≤ 1000 ∧ 0 + (kD (D.l []) (5 : Int) (rcvB (gr.el p.toNat (0 + 1)) q (el.el ((gr.el p.toNat (0 + 1)).el q.toNat (0 + 1 + 1 + 1 + 1)).toI.toNat 2))).len ≤ (kD (D.l []) (5 : Int) (rcvB (gr.el p.toNat (0 + 1)) q (el.el ((gr.el p.toNat (0 + 1)).el q.toNat (0 + 1 + 1 + 1 + 1)).toI.toNat 2))).len ∧ true = true ∧ List.map (fun (j : Nat) => [D.i (itvLo (topN (varP va p)) true (fun (x : Nat) => (0 : Int)) (↑j : Int)), D.i (itvHi (topN (varP va p)) true (fun (x : Nat) => (0 : Int)) (↑j : Int))]) (List.range (topN (varP va p)).toNat) = List.map (fun (j : Nat) => [D.i (itvLo (topN (varP va p)) true (fun (x : Nat) => (0 : Int)) (↑j : Int)), D.i (itvHi (topN (varP va p)) true (fun (x : Nat) => (0 : Int)) (↑j : Int))]) (List.range (topN (varP va p)).toNat) ∧ topN (varP va p) = topN (varP va p) ∧ true = true ∧ (∀ (o : Nat), o < 49 → (0 : Int) = (0 : Int)) ∧ List.replicate ch.len [D.i (1 : Int), D.i (0 : Int)] = List.replicate ch.len [D.i (1 : Int), D.i (0 : Int)] ∧ List.replicate ch.len [D.i (0 : Int)] = List.replicate ch.len [D.i (0 : Int)] ∧ (-1 : Int) = (-1 : Int) ∧ (0 : Int) = (0 : Int) ∧ (1 : Int) = (1 : Int) ∧ (0 : Int) = (0 : Int) ∧ List.drop (0) (List.take (0 + (kD (D.l []) (5 : Int) (rcvB (gr.el p.toNat (0 + 1)) q (el.el ((gr.el p.toNat (0 + 1)).el q.toNat (0 + 1 + 1 + 1 + 1)).toI.toNat 2))).len) (kD (D.l []) (5 : Int) (rcvB (gr.el p.toNat (0 + 1)) q (el.el ((gr.el p.toNat (0 + 1)).el q.toNat (0 + 1 + 1 + 1 + 1)).toI.toNat 2))).rows) = (kD (D.l []) (5 : Int) (rcvB (gr.el p.toNat 1) q (el.el (edC gr p q 4).toI.toNat 2))).rows) ∧ ((rcvZ n ((gr.el p.toNat (0 + 1)).el q.toNat (0 + 1 + 1 + 1)).toI (rcvV (el.el ((gr.el p.toNat (0 + 1)).el q.toNat (0 + 1 + 1 + 1 + 1)).toI.toNat 2) ((gr.el p.toNat (0 + 1)).el q.toNat (0 + 1 + 1 + 1 + 1 + 1)).toI) (e, f)).fst = false → 0 + I.len ≤ (itD I.len n (rcvZ n ((gr.el p.toNat (0 + 1)).el q.toNat (0 + 1 + 1 + 1)).toI (rcvV (el.el ((gr.el p.toNat (0 + 1)).el q.toNat (0 + 1 + 1 + 1 + 1)).toI.toNat 2) ((gr.el p.toNat (0 + 1)).el q.toNat (0 + 1 + 1 + 1 + 1 + 1)).toI) (e, f))).len ∧ 0 + cn.len ≤ cn.len ∧ 0 + ru.len ≤ ru.len ∧ 0 + (kD (D.l []) (5 : Int) (rcvB (gr.el p.toNat (0 + 1)) q (el.el ((gr.el p.toNat (0 + 1)).el q.toNat (0 + 1 + 1 + 1 + 1)).toI.toNat 2))).len ≤ (kD (D.l []) (5 : Int) (rcvB (gr.el p.toNat (0 + 1)) q (el.el ((gr.el p.toNat (0 + 1)).el q.toNat (0 + 1 + 1 + 1 + 1)).toI.toNat 2))).len ∧ (rcvZ n ((gr.el p.toNat (0 + 1)).el q.toNat (0 + 1 + 1 + 1)).toI (rcvV (el.el ((gr.el p.toNat (0 + 1)).el q.toNat (0 + 1 + 1 + 1 + 1)).toI.toNat 2) ((gr.el p.toNat (0 + 1)).el q.toNat (0 + 1 + 1 + 1 + 1 + 1)).toI) (e, f)).fst = true ∧ List.drop (0) (List.take (0 + I.len) (List.map (fun (j : Nat) => [D.i (itvLo n (rcvZ n ((gr.el p.toNat (0 + 1)).el q.toNat (0 + 1 + 1 + 1)).toI (rcvV (el.el ((gr.el p.toNat (0 + 1)).el q.toNat (0 + 1 + 1 + 1 + 1)).toI.toNat 2) ((gr.el p.toNat (0 + 1)).el q.toNat (0 + 1 + 1 + 1 + 1 + 1)).toI) (e, f)).fst (rcvZ n ((gr.el p.toNat (0 + 1)).el q.toNat (0 + 1 + 1 + 1)).toI (rcvV (el.el ((gr.el p.toNat (0 + 1)).el q.toNat (0 + 1 + 1 + 1 + 1)).toI.toNat 2) ((gr.el p.toNat (0 + 1)).el q.toNat (0 + 1 + 1 + 1 + 1 + 1)).toI) (e, f)).snd (↑j : Int)), D.i (itvHi n (rcvZ n ((gr.el p.toNat (0 + 1)).el q.toNat (0 + 1 + 1 + 1)).toI (rcvV (el.el ((gr.el p.toNat (0 + 1)).el q.toNat (0 + 1 + 1 + 1 + 1)).toI.toNat 2) ((gr.el p.toNat (0 + 1)).el q.toNat (0 + 1 + 1 + 1 + 1 + 1)).toI) (e, f)).fst (rcvZ n ((gr.el p.toNat (0 + 1)).el q.toNat (0 + 1 + 1 + 1)).toI (rcvV (el.el ((gr.el p.toNat (0 + 1)).el q.toNat (0 + 1 + 1 + 1 + 1)).toI.toNat 2) ((gr.el p.toNat (0 + 1)).el q.toNat (0 + 1 + 1 + 1 + 1 + 1)).toI) (e, f)).snd (↑j : Int))]) (List.range I.len))) = List.map (fun (j : Nat) => [D.i (itvLo (topN (varP va p)) true (fun (x : Nat) => (0 : Int)) (↑j : Int)), D.i (itvHi (topN (varP va p)) true (fun (x : Nat) => (0 : Int)) (↑j : Int))]) (List.range (topN (varP va p)).toNat) ∧ n = topN (varP va p) ∧ (rcvZ n ((gr.el p.toNat (0 + 1)).el q.toNat (0 + 1 + 1 + 1)).toI (rcvV (el.el ((gr.el p.toNat (0 + 1)).el q.toNat (0 + 1 + 1 + 1 + 1)).toI.toNat 2) ((gr.el p.toNat (0 + 1)).el q.toNat (0 + 1 + 1 + 1 + 1 + 1)).toI) (e, f)).fst = true ∧ (∀ (o : Nat), o < 49 → (rcvZ n ((gr.el p.toNat (0 + 1)).el q.toNat (0 + 1 + 1 + 1)).toI (rcvV (el.el ((gr.el p.toNat (0 + 1)).el q.toNat (0 + 1 + 1 + 1 + 1)).toI.toNat 2) ((gr.el p.toNat (0 + 1)).el q.toNat (0 + 1 + 1 + 1 + 1 + 1)).toI) (e, f)).snd o = (0 : Int)) ∧ List.drop (0) (List.take (0 + cn.len) cn.rows) = List.replicate ch.len [D.i (1 : Int), D.i (0 : Int)] ∧ List.drop (0) (List.take (0 + ru.len) ru.rows) = List.replicate ch.len [D.i (0 : Int)] ∧ (-1 : Int) = (-1 : Int) ∧ (0 : Int) = (0 : Int) ∧ (1 : Int) = (1 : Int) ∧ (0 : Int) = (0 : Int) ∧ List.drop (0) (List.take (0 + (kD (D.l []) (5 : Int) (rcvB (gr.el p.toNat (0 + 1)) q (el.el ((gr.el p.toNat (0 + 1)).el q.toNat (0 + 1 + 1 + 1 + 1)).toI.toNat 2))).len) (kD (D.l []) (5 : Int) (rcvB (gr.el p.toNat (0 + 1)) q (el.el ((gr.el p.toNat (0 + 1)).el q.toNat (0 + 1 + 1 + 1 + 1)).toI.toNat 2))).rows) = (kD (D.l []) (5 : Int) (rcvB (gr.el p.toNat 1) q (el.el (edC gr p q 4).toI.toNat 2))).rows))) (by kernel_rfl) ?_
    intro hg hI hx4 hgl hel hc hE hch hcn hru hk h1 hz
    have hb : (c || !edgeB ch gr p q || !((cn.len : Int) == (ch.len : Int) && (ru.len : Int) == (ch.len : Int))) = false := by rw [hc, hE, hcn, hru]; simp
    have hpq : plB p gr.len = true ∧ plB q (gr.el p.toNat 1).len = true := by
      have hE := hE
      unfold edgeB at hE
      split at hE
      · cases hE
      · rename_i hh; simpa using hh
    have hpl : ∀ {a b : Int}, plB a b = true → 0 ≤ a ∧ a < b := fun {a b} h => by unfold plB at h; simp at h; omega
    have hpp := hpl hpq.1
    have hqq := hpl hpq.2
    have hed : ∀ j, (gr.el p.toNat 1).el q.toNat j = edC gr p q j := fun _ => rfl
    refine ⟨fun h => absurd (hb.symm.trans h) (by decide), fun _ => ?_⟩
    have hsub : ∀ d : D, (d.sub 0 d.len).rows = d.rows := fun d => (congrArg (List.drop 0) (List.take_length)).trans rfl
    have htk : ∀ d : D, List.drop 0 (List.take d.len d.rows) = d.rows := fun d => hsub d
    have hsl : ∀ d : D, (d.sub 0 d.len).len = d.len := fun d => by show (d.sub 0 d.len).rows.length = d.len; rw [hsub]; rfl
    have h0 : (D.l []).len ≤ 900 := by show 0 ≤ 900; omega
    have hcl : 0 < cn.len ∧ cn.len ≤ 1000 := by omega
    have hrl : 0 < ru.len ∧ ru.len ≤ 1000 := by omega
    simp only [Nat.zero_add, Nat.reduceAdd, hed, hsl, htk, itD_len, hk, h1, h0, hg, hI, hx4, hgl, hel, hpp, hqq, hcl, hrl, hch, hz, true_and, and_true, implies_true, Nat.le_refl, Bool.true_eq_false, false_implies]
  · trivial
end Go.Proofs.YtlgmofjjjhbgkaaGreat.Sx.Z
namespace Go.Proofs.YtlgmofjjjhbgkaaGreat.Sx.Z
open Go.RowKit
def opT (k : Int) (r s : Int × Int) : Int × Int := if r.2 ≠ 0 then (0, r.2) else if s.2 ≠ 0 then (0, s.2) else if errP k r.1 s.1 = 0 then (valP k r.1 s.1, 0) else (0, errP k r.1 s.1)
def evT (g : Int → Int) : Xp → Int × Int
  | .mk k n v kids => match kids with
    | [] => if k = 1 then (n, 0) else (g v, 0)
    | [a] => opT 5 (0, 0) (evT g a)
    | [a, b] => opT k (evT g a) (evT g b)
    | _ => (0, 0)
theorem ev_0 (g : Int → Int) (k n v : Int) : evT g (.mk k n v []) = if k = 1 then (n, 0) else (g v, 0) := by rw [evT]
theorem ev_1 (g : Int → Int) (k n v : Int) (a : Xp) : evT g (.mk k n v [a]) = opT 5 (0, 0) (evT g a) := by rw [evT]
theorem ev_2 (g : Int → Int) (k n v : Int) (a b : Xp) : evT g (.mk k n v [a, b]) = opT k (evT g a) (evT g b) := by rw [evT]
theorem opT_in (k : Int) (r s : Int × Int) : (opT k r s).2 = 0 → -2147483648 ≤ (opT k r s).1 ∧ (opT k r s).1 ≤ 2147483647 := by
  unfold opT
  intro h
  split at h
  · dsimp only at h; omega
  · split at h
    · dsimp only at h; omega
    · split at h
      · rename_i h1 h2 h3
        rw [if_neg h1, if_neg h2, if_pos h3]
        have := errP_or k r.1 s.1
        dsimp only
        omega
      · dsimp only at h; omega
theorem opT_err (k : Int) (r s : Int × Int) (hr : r.2 = 0 ∨ r.2 = 2 ∨ r.2 = 3) (hs : s.2 = 0 ∨ s.2 = 2 ∨ s.2 = 3) : ((opT k r s).2 = 0 ∨ (opT k r s).2 = 2 ∨ (opT k r s).2 = 3) ∧ ((opT k r s).2 ≠ 0 → (opT k r s).1 = 0) := by
  have := errP_or k r.1 s.1
  unfold opT
  split
  · dsimp only; omega
  · split
    · dsimp only; omega
    · split <;> dsimp only <;> omega
/-- Numbers that a variable may be. -/
def InV (w : Int) (g : Int → Int) : Prop := ∀ v, 0 ≤ v → v < w → -2147483648 ≤ g v ∧ g v ≤ 2147483647
theorem ev_in {w : Int} {g : Int → Int} (hg : InV w g) {e : Xp} (h : Tm w e) : ((evT g e).2 = 0 ∨ (evT g e).2 = 2 ∨ (evT g e).2 = 3) ∧ ((evT g e).2 ≠ 0 → (evT g e).1 = 0) ∧ -2147483648 ≤ (evT g e).1 ∧ (evT g e).1 ≤ 2147483647 := by
  have fin : ∀ {p : Int × Int}, (p.2 = 0 ∨ p.2 = 2 ∨ p.2 = 3) ∧ (p.2 ≠ 0 → p.1 = 0) → (p.2 = 0 → -2147483648 ≤ p.1 ∧ p.1 ≤ 2147483647) → (p.2 = 0 ∨ p.2 = 2 ∨ p.2 = 3) ∧ (p.2 ≠ 0 → p.1 = 0) ∧ -2147483648 ≤ p.1 ∧ p.1 ≤ 2147483647 := fun {p} h1 h2 => by
    refine ⟨h1.1, h1.2, ?_⟩
    by_cases h : p.2 = 0
    · exact h2 h
    · rw [h1.2 h]; omega
  induction h with
  | num n h0 h1 => rw [ev_0, if_pos rfl]; dsimp only; omega
  | var v h0 h1 => rw [ev_0, if_neg (by decide)]; have := hg v h0 h1; dsimp only; omega
  | neg a _ ih => rw [ev_1]; exact fin (opT_err _ _ _ (.inl rfl) ih.1) (opT_in _ _ _)
  | bin k a b _ _ _ _ ia ib => rw [ev_2]; exact fin (opT_err _ _ _ ia.1 ib.1) (opT_in _ _ _)
theorem opT_l {k : Int} {r s : Int × Int} (h : r.2 ≠ 0) : opT k r s = (0, r.2) := if_pos h
theorem opT_r {k : Int} {r s : Int × Int} (h : r.2 = 0) (h2 : s.2 ≠ 0) : opT k r s = (0, s.2) := (if_neg (by omega)).trans (if_pos h2)
theorem opT_v {k : Int} {r s : Int × Int} (h : r.2 = 0) (h2 : s.2 = 0) : opT k r s = if errP k r.1 s.1 = 0 then (valP k r.1 s.1, 0) else (0, errP k r.1 s.1) := (if_neg (by omega)).trans (if_neg (by omega))
end Go.Proofs.YtlgmofjjjhbgkaaGreat.Sx.Z
namespace Go.Proofs.YtlgmofjjjhbgkaaGreat.Sx.Z
open Go.RowKit
theorem met_pt {n x lo hi : Int} {z : Zs} (h : Good n z) (hx : isVarP n x = true) (v : Nat → Int) : Pt n (metZ n x lo hi z) v ↔ Pt n z v ∧ ofLo lo hi ≤ v (x + 1).toNat ∧ v (x + 1).toNat ≤ ofHi lo hi := by
  have hv := isVarP_lt hx
  have e : metZ n x lo hi z = bndZ n (-1) x (0 - ofLo lo hi) (bndZ n x (-1) (ofHi lo hi) z) := if_neg (by omega)
  have q0 : ((-1 : Int) + 1).toNat = 0 := rfl
  rw [e, bnd_pt (good_bnd h _ _ _) (isEnd_nought n) (isVar_end hx), bnd_pt h (isVar_end hx) (isEnd_nought n), q0]
  constructor
  · rintro ⟨⟨p, h1⟩, h2⟩
    have := p.2.1
    exact ⟨p, by omega, by omega⟩
  · rintro ⟨p, h1, h2⟩
    have := p.2.1
    exact ⟨⟨p, by omega⟩, by omega⟩
theorem itv_pts {n x a b : Int} {z : Zs} (g : Good n z) (hx : isVarP n x = true) (va : ∃ v, Pt n z v ∧ v (x + 1).toNat = a) (vb : ∃ v, Pt n z v ∧ v (x + 1).toNat = b) (all : ∀ v, Pt n z v → a ≤ v (x + 1).toNat ∧ v (x + 1).toNat ≤ b) : z.1 = false ∧ itvLo n z.1 z.2 x = a ∧ itvHi n z.1 z.2 x = b := by
  have hR := R_le n
  obtain ⟨ha, hax, ha1⟩ := isVar_R hx
  obtain ⟨v, pv, ev⟩ := va
  obtain ⟨w, pw, ew⟩ := vb
  obtain ⟨e1, e2⟩ := itv_exact g pv.1 hx
  have d0 := g.diag 0 (by omega)
  have t1 := (all _ (pt_at g pv.1 (j := 0) (by omega))).2
  have t2 := (all _ (pt_at g pv.1 (j := (x + 1).toNat) ha)).1
  have d1 := g.diag _ ha
  have t3 := pw.2.2 _ 0 ha (by omega)
  have t4 := pv.2.2 0 _ (by omega) ha
  have z1 := pv.2.1
  have z2 := pw.2.1
  simp only [Nat.zero_mul, Nat.zero_add, Nat.add_zero] at d0 t1 t2 t3 t4
  rw [e1, e2]
  exact ⟨pv.1, by omega, by omega⟩
end Go.Proofs.YtlgmofjjjhbgkaaGreat.Sx.Z
namespace Go.Proofs.YtlgmofjjjhbgkaaGreat.Sx.Z
open Go.RowKit
theorem of_lh {a b : Int} (h : -2147483648 ≤ a ∧ a ≤ b ∧ b ≤ 2147483647) : ofLo a b = a ∧ ofHi a b = b := by
  have e := nm_id (p := (a, b)) (.inr h)
  exact ⟨congrArg Prod.fst e, congrArg Prod.snd e⟩
end Go.Proofs.YtlgmofjjjhbgkaaGreat.Sx.Z
namespace Go.Proofs.YtlgmofjjjhbgkaaGreat.Sx.Z
open Go.RowKit
theorem ent_le {n : Int} {z : Zs} (g : Good n z) (hz : z.1 = false) {i j : Nat} (hi : i < R n) (hj : j < R n) {c : Int} (h : ∀ v, Pt n z v → v i - v j ≤ c) : z.2 (i * 7 + j) ≤ c := by
  have p := h _ (pt_at g hz hj)
  have d := g.diag j hj
  omega
theorem fg_ent {n x : Int} {z : Zs} (hz : z.1 = false) (hx : isVarP n x = true) {v : Nat → Int} (p : Pt n (fgZ n x z) v) {i j : Nat} (hi : i < R n) (hj : j < R n) (hi2 : i ≠ (x + 1).toNat) (hj2 : j ≠ (x + 1).toNat) : v i - v j ≤ z.2 (i * 7 + j) := by
  have hR := R_le n
  have t := p.2.2 i j hi hj
  rw [fg_false hz hx] at t
  dsimp only at t
  rwa [fg_at hi hj hR.2.1, if_neg (by omega), if_neg (by omega)] at t
/-- It has one row of numbers, and no other. -/
def Sg (n : Int) (z : Zs) (p : Nat → Int) : Prop := Good n z ∧ Pt n z p ∧ ∀ v, Pt n z v → ∀ i, i < R n → v i = p i
theorem sg_ent {n : Int} {z : Zs} {p : Nat → Int} (h : Sg n z p) {i j : Nat} (hi : i < R n) (hj : j < R n) : z.2 (i * 7 + j) ≤ p i - p j :=
  ent_le h.1 h.2.1.1 hi hj fun v hv => by rw [h.2.2 v hv i hi, h.2.2 v hv j hj]; exact Int.le_refl _
def setC (n x c : Int) (z : Zs) : Zs := metZ n x (ofLo c c) (ofHi c c) (fgZ n x z)
theorem good_setC {n x c : Int} {z : Zs} (g : Good n z) : Good n (setC n x c z) := good_met (good_fg g _) _ _ _
theorem of_cc {c : Int} (hc : -2147483648 ≤ c ∧ c ≤ 2147483647) : ofLo c c = c ∧ ofHi c c = c := of_lh (by omega)
theorem setC_pt {n x c : Int} {z : Zs} (g : Good n z) (hx : isVarP n x = true) (hc : -2147483648 ≤ c ∧ c ≤ 2147483647) (v : Nat → Int) : Pt n (setC n x c z) v ↔ Pt n (fgZ n x z) v ∧ v (x + 1).toNat = c := by
  have e := of_cc hc
  unfold setC
  rw [met_pt (good_fg g x) hx, e.1, e.2, e.1, e.2]
  constructor
  · rintro ⟨a, b, d⟩; exact ⟨a, by omega⟩
  · rintro ⟨a, b⟩; exact ⟨a, by omega, by omega⟩
theorem sg_set {n x c : Int} {z : Zs} {p : Nat → Int} (h : Sg n z p) (hx : isVarP n x = true) (hc : -2147483648 ≤ c ∧ c ≤ 2147483647) : Sg n (setC n x c z) (upd p (x + 1).toNat c) := by
  have hR := R_le n
  obtain ⟨x1, x2, x3⟩ := isVar_R hx
  refine ⟨good_setC h.1, (setC_pt h.1 hx hc _).2 ⟨pt_fg h.1 hx h.2.1 hc, upd_at _ _ _⟩, fun v hv i hi => ?_⟩
  obtain ⟨pv, ev⟩ := (setC_pt h.1 hx hc v).1 hv
  by_cases hix : i = (x + 1).toNat
  · rw [hix, upd_at]; exact ev
  · rw [upd_ne hix]
    have a := fg_ent h.2.1.1 hx pv hi (show 0 < R n by omega) hix (by omega)
    have b := fg_ent h.2.1.1 hx pv (show 0 < R n by omega) hi (by omega) hix
    have a2 := sg_ent h hi (show 0 < R n by omega)
    have b2 := sg_ent h (show 0 < R n by omega) hi
    have e1 := pv.2.1
    have e2 := h.2.1.2.1
    omega
def rowZ (n : Int) (g : Nat → Int) : Nat → Zs
  | 0 => (false, fun _ => 0)
  | i + 1 => setC n i (g i) (rowZ n g i)
theorem row_sg {n : Int} (hn : 0 ≤ n ∧ n ≤ 6) {g : Nat → Int} (hg : ∀ i : Nat, (i : Int) < n → -2147483648 ≤ g i ∧ g i ≤ 2147483647) : ∀ i : Nat, (i : Int) ≤ n → Sg n (rowZ n g i) (fun q => if q = 0 then 0 else if q ≤ i then g (q - 1) else 0)
  | 0, _ => by
    refine ⟨good_none hn false, ⟨rfl, rfl, fun i j hi hj => ?_⟩, fun v hv i hi => ?_⟩
    · have e : ∀ q : Nat, (if q = 0 then 0 else if q ≤ 0 then g (q - 1) else 0) = (0 : Int) := fun q => by
        split
        · rfl
        · rw [if_neg (by omega)]
      have z0 : (rowZ n g 0).2 (i * 7 + j) = 0 := rfl
      dsimp only
      rw [e, e]; omega
    · have hR := R_le n
      have a := hv.2.2 i 0 hi (by omega)
      have b := hv.2.2 0 i (by omega) hi
      have c := hv.2.1
      dsimp only [rowZ] at a b
      show v i = if i = 0 then 0 else if i ≤ 0 then g (i - 1) else 0
      split
      · omega
      · rw [if_neg (by omega)]; omega
  | i + 1, h => by
    have ih := row_sg hn hg i (by omega)
    have hx : isVarP n i = true := isVar_of hn (by omega)
    have s := sg_set ih hx (hg i (by omega))
    have e : ((i : Int) + 1).toNat = i + 1 := by omega
    rw [e] at s
    have ef : ∀ q, upd (fun q => if q = 0 then 0 else if q ≤ i then g (q - 1) else 0) (i + 1) (g i) q = if q = 0 then 0 else if q ≤ i + 1 then g (q - 1) else 0 := fun q => by
      by_cases hq : q = i + 1
      · subst hq; rw [upd_at, if_neg (by omega), if_pos (by omega)]; rfl
      · rw [upd_ne hq]
        by_cases h0 : q = 0
        · rw [if_pos h0, if_pos h0]
        · rw [if_neg h0, if_neg h0]
          by_cases h1 : q ≤ i
          · rw [if_pos h1, if_pos (by omega)]
          · rw [if_neg h1, if_neg (by omega)]
    rw [funext ef] at s
    exact s
end Go.Proofs.YtlgmofjjjhbgkaaGreat.Sx.Z
namespace Go.Proofs.YtlgmofjjjhbgkaaGreat.Sx.Z
open Go.RowKit
theorem rec_0 (I : D) (k n v : Int) : recP I (.mk k n v []) = if k = 1 then (ofI n n, (false, false)) else if k = 2 ∧ 0 ≤ v ∧ v < I.len then (prI I v, (false, false)) else noE := by
  rw [recP.eq_3 _ _ _ _ _ (fun a h => by cases h) (fun a b h => by cases h)]
theorem rec_1 (I : D) (a : Xp) : recP I (.mk 3 0 0 [a]) = negE (recP I a) := by
  rw [recP]; simp
theorem rec_2 (I : D) (k : Int) (h : 4 ≤ k) (a b : Xp) : recP I (.mk k 0 0 [a, b]) = doE k (bothI (recP I a) (recP I b)) := by
  rw [recP, if_neg (by omega), if_neg (by omega)]
theorem of_nn {n : Int} (h : -2147483648 ≤ n ∧ n ≤ 2147483647) : ofI n n = (n, n) := nm_id (p := (n, n)) (.inr (by dsimp only; omega))
theorem neg_eq (r : IE) : negE r = doE 5 (bothI ((0, 0), (false, false)) r) := by
  unfold negE doE bothI negI
  rw [if_neg (by decide)]
  show _ = ((doI 5 (0, 0) r.1).1, tg (tg (false, false) r.2) (doI 5 (0, 0) r.1).2)
  have : tg (false, false) r.2 = r.2 := by unfold tg; simp
  rw [this]
/-- Of one row of numbers. -/
def alone (t : Int × Int) : IE := (if t.2 = 0 then (t.1, t.1) else (1, 0), (decide (t.2 = 2), decide (t.2 = 3)))
theorem do_alone {k : Int} (h4 : 4 ≤ k) (h8 : k ≤ 8) {s t : Int × Int} (cs : (s.2 = 0 ∨ s.2 = 2 ∨ s.2 = 3) ∧ (s.2 ≠ 0 → s.1 = 0) ∧ -2147483648 ≤ s.1 ∧ s.1 ≤ 2147483647) (ct : (t.2 = 0 ∨ t.2 = 2 ∨ t.2 = 3) ∧ (t.2 ≠ 0 → t.1 = 0) ∧ -2147483648 ≤ t.1 ∧ t.1 ≤ 2147483647) : doE k (bothI (alone s) (alone t)) = alone (opT k s t) := by
  obtain ⟨a, p⟩ := s
  obtain ⟨b, q⟩ := t
  dsimp only at cs ct
  have tn : ∀ x : Bool × Bool, tg x (false, false) = x := fun x => by unfold tg; simp
  have tl : ∀ x : Bool × Bool, tg (false, false) x = x := fun x => by unfold tg; simp
  by_cases hp : p = 0
  · subst hp
    have ea : alone (a, 0) = ((a, a), (false, false)) := rfl
    by_cases hq : q = 0
    · subst hq
      have eb : alone (b, 0) = ((b, b), (false, false)) := rfl
      have nd : ¬ NoDo k (a, a) (b, b) := by unfold NoDo; dsimp only; omega
      have ok := (doI_ok nd (.inr (by dsimp only; omega)) (.inr (by dsimp only; omega))).2
      have e : bothI ((a, a), (false, false)) ((b, b), (false, false)) = ((a, a), (b, b), (false, false)) := by
        unfold bothI; rw [if_neg (by dsimp only; omega)]; rfl
      rw [ea, eb, e, opT_v rfl rfl]
      unfold doE
      dsimp only at ok ⊢
      rw [tl]
      generalize doI k (a, a) (b, b) = r at ok ⊢
      obtain ⟨⟨z0, z1⟩, ⟨ov, dz⟩⟩ := r
      dsimp only at ok ⊢
      have en := errP_or k a b
      have hov : ov = true → errP k a b = 2 := fun h => by
        obtain ⟨x, y, x0, x1, y0, y1, h2⟩ := ok.sure (.inr ⟨rfl, rfl⟩) h
        have ex : x = a := by omega
        have ey : y = b := by omega
        rw [ex, ey] at h2; exact h2
      have hov2 : errP k a b = 2 → ov = true := fun h => ok.over a b (Int.le_refl _) (Int.le_refl _) (Int.le_refl _) (Int.le_refl _) h
      have hdz : dz = decide (errP k a b = 3) := by
        rw [ok.zero]
        by_cases h7 : 7 ≤ k ∧ b = 0
        · have : errP k a b = 3 := by omega
          rw [this]; simp; omega
        · have : ¬ errP k a b = 3 := by omega
          rw [decide_eq_false this]; simp; omega
      have hv : ov = decide (errP k a b = 2) := by
        by_cases h2 : errP k a b = 2
        · rw [hov2 h2, decide_eq_true h2]
        · rw [decide_eq_false h2]
          cases ov with
          | false => rfl
          | true => exact absurd (hov rfl) h2
      by_cases h0 : errP k a b = 0
      · obtain ⟨q1, q2⟩ := (ok.alone ⟨rfl, rfl⟩).2 h0
        rw [if_pos h0, hv, hdz, h0, q1, q2]
        rfl
      · obtain ⟨q1, q2⟩ := (ok.alone ⟨rfl, rfl⟩).1 h0
        rw [if_neg h0, hv, hdz, q1, q2]
        unfold alone
        rw [if_neg h0]
    · have eb : alone (b, q) = ((1, 0), (decide (q = 2), decide (q = 3))) := by unfold alone; rw [if_neg hq]
      have e : bothI ((a, a), (false, false)) ((1, 0), (decide (q = 2), decide (q = 3))) = ((a, a), (1, 0), (decide (q = 2), decide (q = 3))) := by
        unfold bothI; rw [if_neg (by dsimp only; omega), tl]
      have d : doI k (a, a) (1, 0) = ((1, 0), (false, false)) := doI_none (.inr (.inl (by decide)))
      rw [ea, eb, e, opT_r rfl hq]
      unfold doE
      dsimp only
      rw [d, tn]
      unfold alone
      rw [if_neg hq]
  · have ea : alone (a, p) = ((1, 0), (decide (p = 2), decide (p = 3))) := by unfold alone; rw [if_neg hp]
    have e : bothI ((1, 0), (decide (p = 2), decide (p = 3))) (alone (b, q)) = ((1, 0), (1, 0), (decide (p = 2), decide (p = 3))) := by
      unfold bothI; rw [if_pos (show (0 : Int) < 1 by decide)]
    have d : doI k (1, 0) (1, 0) = ((1, 0), (false, false)) := doI_none (.inl (by decide))
    rw [ea, e, opT_l hp]
    unfold doE
    dsimp only
    rw [d, tn]
    unfold alone
    rw [if_neg hp]
theorem rec_alone {w : Int} {I : D} {g : Int → Int} (hw : w = I.len) (hg : InV w g) (hv : ∀ v, 0 ≤ v → v < w → prI I v = (g v, g v)) {e : Xp} (h : Tm w e) : recP I e = alone (evT g e) := by
  induction h with
  | num n h0 h1 =>
    rw [rec_0, if_pos rfl, ev_0, if_pos rfl, of_nn (by omega)]
    rfl
  | var v h0 h1 =>
    rw [rec_0, if_neg (by decide), if_pos ⟨rfl, h0, by omega⟩, ev_0, if_neg (by decide), hv v h0 h1]
    rfl
  | neg a ha ih =>
    rw [rec_1, ev_1, neg_eq, ih]
    exact do_alone (by omega) (by omega) (s := (0, 0)) ⟨.inl rfl, fun h => absurd rfl h, by decide, by decide⟩ (ev_in hg ha)
  | bin k a b h4 h8 ha hb ia ib =>
    rw [rec_2 _ _ h4, ev_2, ia, ib]
    exact do_alone h4 h8 (ev_in hg ha) (ev_in hg hb)
/-- A variable's number, or nought, and so much more. -/
theorem lin_ev {w : Int} (hw : 1 ≤ w) {g : Int → Int} (hg : InV w g) {e : Xp} (h : Tm w e) {y b : Int} (hl : linP e = some (y, b)) (h0 : (evT g e).2 = 0) : (evT g e).1 = (if y = -1 then 0 else g y) + b := by
  induction h generalizing y b with
  | num n n0 n1 =>
    rw [linP.eq_2 _ _ _ _ (fun a b h => by cases h), if_pos rfl] at hl
    unfold amtP at hl
    rw [if_neg (by omega)] at hl
    obtain ⟨rfl, rfl⟩ := Prod.mk.inj (Option.some.inj hl)
    rw [ev_0, if_pos rfl, if_pos rfl]; dsimp only; omega
  | var v v0 v1 =>
    rw [linP.eq_2 _ _ _ _ (fun a b h => by cases h), if_neg (by decide), if_pos rfl] at hl
    obtain ⟨rfl, rfl⟩ := Prod.mk.inj (Option.some.inj hl)
    rw [ev_0, if_neg (by decide), if_neg (by omega)]; dsimp only; omega
  | neg a ha ih =>
    rw [linP.eq_2 _ _ _ _ (fun a b h => by cases h), if_neg (by decide), if_neg (by decide), if_neg (by decide)] at hl
    cases hl
  | bin k a c h4 h8 ha hb ia ib =>
    rw [linP, if_neg (by omega), if_neg (by omega)] at hl
    rw [ev_2] at h0 ⊢
    have ka := (lin_same hw ha).2
    have kc := (lin_same hw hb).2
    have ea := ev_in hg ha
    have ec := ev_in hg hb
    split at hl
    · rename_i k45
      generalize linP a = L at *
      generalize linP c = R at *
      generalize evT g a = s at *
      generalize evT g c = t at *
      rcases L with _ | ⟨x, m⟩
      · rw [comb_l] at hl; cases hl
      · rcases R with _ | ⟨z, p⟩
        · rw [comb_r] at hl; cases hl
        · have s0 : s.2 = 0 := by
            by_cases q : s.2 = 0
            · exact q
            · rw [opT_l q] at h0; exact absurd h0 q
          have t0 : t.2 = 0 := by
            by_cases q : t.2 = 0
            · exact q
            · rw [opT_r s0 q] at h0; exact absurd h0 q
          have e1 := ia rfl s0
          have e2 := ib rfl t0
          have xm := ka x m rfl
          have zp := kc z p rfl
          have w1 : IntKind.i64.wrap (m - p) = m - p := wr _ (by omega)
          have w2 : IntKind.i64.wrap (m + p) = m + p := wr _ (by omega)
          have er := errP_or k s.1 t.1
          rw [opT_v s0 t0] at h0 ⊢
          have e0 : errP k s.1 t.1 = 0 := by
            by_cases q : errP k s.1 t.1 = 0
            · exact q
            · rw [if_neg q] at h0; exact absurd h0 q
          rw [if_pos e0]
          rw [comb_some, w1, w2] at hl
          have am : ∀ {u v : Int}, amtP u v = some (y, b) → u = y ∧ v = b := fun {u v} h => by
            unfold amtP at h
            split at h
            · cases h
            · exact Prod.mk.inj (Option.some.inj h)
          dsimp only
          split at hl
          · rename_i c5
            obtain ⟨rfl, rfl⟩ := am hl
            have v5 : valP k s.1 t.1 = s.1 - t.1 := by rw [c5.1]; rfl
            rw [v5, e1, e2, c5.2]; simp; omega
          · split at hl
            · rename_i c4
              obtain ⟨rfl, rfl⟩ := am hl
              have v5 : valP k s.1 t.1 = s.1 + t.1 := by rw [c4.1]; rfl
              rw [v5, e1, e2, c4.2]; simp; omega
            · split at hl
              · rename_i c4
                obtain ⟨rfl, rfl⟩ := am hl
                have v5 : valP k s.1 t.1 = s.1 + t.1 := by rw [c4.1]; rfl
                rw [v5, e1, e2, c4.2]; simp; omega
              · cases hl
    · cases hl
end Go.Proofs.YtlgmofjjjhbgkaaGreat.Sx.Z
namespace Go.Proofs.YtlgmofjjjhbgkaaGreat.Sx.Z
open Go.RowKit
theorem sg_of {n : Int} {w : Zs} {q : Nat → Int} (g : Good n w) (p : Pt n w q) (h : ∀ v, Pt n w v → ∀ i, i < R n → v i - v 0 ≤ q i - q 0 ∧ v 0 - v i ≤ q 0 - q i) : Sg n w q :=
  ⟨g, p, fun v hv i hi => by have := h v hv i hi; have a := hv.2.1; have b := p.2.1; omega⟩
theorem sg_copy {n x y b : Int} {z : Zs} {p : Nat → Int} (s : Sg n z p) (hx : isVarP n x = true) (hy : isEndP n y = true) (hf : -1099511627776 ≤ b ∧ b ≤ 1099511627776) (hb : -2147483648 ≤ p (y + 1).toNat + b ∧ p (y + 1).toNat + b ≤ 2147483647) : Sg n (copyZ n x y b z) (upd p (x + 1).toNat (p (y + 1).toNat + b)) := by
  have hR := R_le n
  have g := s.1
  obtain ⟨ha, hac, ha1⟩ := isVar_R hx
  have pc := pt_copy g hx hy hf s.2.1 hb
  refine sg_of (good_copy g _ _ _) pc fun v hv i hi => ?_
  have hz := s.2.1.1
  unfold copyZ at hv
  rw [if_neg (by rw [hz, hx, hy]; simp), if_neg (by simp only [Bool.or_eq_true, decide_eq_true_eq]; omega)] at hv
  have g2 := cp2_good g y b
  by_cases hxy : x = y
  · subst hxy
    rw [if_pos (by simp)] at hv
    have hc : (cp2 n x b z).1 = false := hv.1
    have en : ∀ i j, i < R n → j < R n → (cp2 n x b z).2 (i * 7 + j) ≤ p i - p j := fun i j hi hj => Int.le_trans (cp2_mono g hy hc hi hj) (sg_ent s hi hj)
    have e : ∀ i j, (shZ n (x + 1).toNat b (cp2 n x b z)).2 (i * 7 + j) = shTo (cp2 n x b z).2 (x + 1).toNat b (R n) (i * 7 + j) := fun i j => by
      show shiftF n (cp2 n x b z).1 (cp2 n x b z).2 (x + 1).toNat b _ = _
      unfold shiftF
      rw [if_neg (by rw [hc]; simp)]; rfl
    have t1 := hv.2.2 i 0 hi (by omega)
    have t2 := hv.2.2 0 i (by omega) hi
    rw [e, sh_at hi (by omega) hR.2.1] at t1
    rw [e, sh_at (by omega) hi hR.2.1] at t2
    have n1 := en i 0 hi (by omega)
    have n2 := en 0 i (by omega) hi
    by_cases hia : i = (x + 1).toNat
    · rw [if_pos ⟨hia, by omega⟩] at t1
      rw [if_neg (by omega), if_pos ⟨hia, by omega⟩] at t2
      rw [hia, upd_at, upd_ne (by omega)]
      subst hia
      omega
    · rw [if_neg (by omega), if_neg (by omega)] at t1
      rw [if_neg (by omega), if_neg (by omega)] at t2
      rw [upd_ne hia, upd_ne (by omega)]
      omega
  · rw [if_neg (by simpa using hxy)] at hv
    have hyc := isEnd_R hy
    have hne : (y + 1).toNat ≠ (x + 1).toNat := fun e => hxy (by omega)
    have g3 := good_fg g2 x
    obtain ⟨p1, h1⟩ := (bnd_pt (good_bnd g3 _ _ _) hy (isVar_end hx) v).1 hv
    obtain ⟨p2, h2⟩ := (bnd_pt g3 (isVar_end hx) hy v).1 p1
    have hc : (cp2 n y b z).1 = false := p2.1
    have en : ∀ i j, i < R n → j < R n → i ≠ (x + 1).toNat → j ≠ (x + 1).toNat → v i - v j ≤ p i - p j := fun i j hi hj hi2 hj2 => Int.le_trans (fg_ent hc hx p2 hi hj hi2 hj2) (Int.le_trans (cp2_mono g hy hc hi hj) (sg_ent s hi hj))
    by_cases hia : i = (x + 1).toNat
    · have a1 := en (y + 1).toNat 0 hyc.1 (by omega) hne (by omega)
      have a2 := en 0 (y + 1).toNat (by omega) hyc.1 (by omega) hne
      rw [hia, upd_at, upd_ne (by omega)]
      omega
    · rw [upd_ne hia, upd_ne (by omega)]
      exact ⟨en i 0 hi (by omega) hia (by omega), en 0 i (by omega) hi (by omega) hia⟩
theorem met_sub {n x lo hi : Int} {z : Zs} (g : Good n z) (hx : isEndP n x = true) {v : Nat → Int} (p : Pt n (metZ n x lo hi z) v) : Pt n z v := by
  by_cases h : x < 0
  · have e : metZ n x lo hi z = z := if_pos h
    rwa [e] at p
  · have hv : isVarP n x = true := by
      unfold isEndP at hx
      rw [Bool.or_eq_true] at hx
      rcases hx with h1 | h1
      · have : x = -1 := by simpa using h1
        omega
      · exact h1
    exact ((met_pt g hv v).1 p).1
theorem met_in {n x lo hi : Int} {z : Zs} (g : Good n z) (hx : isEndP n x = true) {v : Nat → Int} (p : Pt n z v) (h : 0 ≤ x → ofLo lo hi ≤ v (x + 1).toNat ∧ v (x + 1).toNat ≤ ofHi lo hi) : Pt n (metZ n x lo hi z) v := by
  by_cases h0 : x < 0
  · have e : metZ n x lo hi z = z := if_pos h0
    rwa [e]
  · have hv : isVarP n x = true := by
      unfold isEndP at hx
      rw [Bool.or_eq_true] at hx
      rcases hx with h1 | h1
      · have : x = -1 := by simpa using h1
        omega
      · exact h1
    exact (met_pt g hv v).2 ⟨p, h (by omega)⟩
theorem sg_met {n x lo hi : Int} {z : Zs} {p : Nat → Int} (s : Sg n z p) (hx : isEndP n x = true) (h : 0 ≤ x → ofLo lo hi ≤ p (x + 1).toNat ∧ p (x + 1).toNat ≤ ofHi lo hi) : Sg n (metZ n x lo hi z) p :=
  ⟨good_met s.1 _ _ _, met_in s.1 hx s.2.1 h, fun v hv => s.2.2 v (met_sub s.1 hx hv)⟩
/-- The numbers of variables, by the variable. -/
def gI (h : Nat → Int) : Int → Int := fun v => h v.toNat
theorem vz_end (h : Nat → Int) {y : Int} (hy : -1 ≤ y) : vz h (y + 1).toNat = if y = -1 then 0 else gI h y := by
  unfold vz gI
  by_cases e : y = -1
  · subst e; rfl
  · rw [if_neg (by omega), if_neg e]
    congr 1; omega
theorem sg_itv {n : Int} {z : Zs} {h : Nat → Int} (s : Sg n z (vz h)) {v : Int} (hv : 0 ≤ v ∧ v < n) : prI (itD n.toNat n z) v = (gI h v, gI h v) := by
  have hx := isVar_of s.1.n0 hv
  obtain ⟨a, b, c⟩ := isVar_R hx
  have e3 := vz_end h (y := v) (by omega)
  rw [if_neg (by omega)] at e3
  have t := itv_pts s.1 hx ⟨_, s.2.1, e3⟩ ⟨_, s.2.1, e3⟩ fun w hw => by
    have := s.2.2 w hw _ a
    omega
  rw [itD_pr (by omega), t.2.1, t.2.2]
section
variable {n : Int} {z : Zs} {h : Nat → Int} (g : Good n z) (h1 : 1 ≤ n) (hg : InV n (gI h)) {e : Xp} (ht : Tm n e)
include g h1 hg ht
theorem eva_alone (s : Sg n z (vz h)) : recP (itD n.toNat n z) e = alone (evT (gI h) e) := by
  have h0 := g.n0
  exact rec_alone (w := n) (by rw [itD_len]; omega) hg (fun v v0 v1 => sg_itv s ⟨v0, v1⟩) ht
theorem asg_sg (s : Sg n z (vz h)) {x : Int} (hx : 0 ≤ x ∧ x < n) (he : (evT (gI h) e).2 = 0) : Sg n (asgZ n x e z) (upd (vz h) (x + 1).toNat (evT (gI h) e).1) := by
  have h0 := g.n0
  have vx := isVar_of h0 hx
  have al := eva_alone g h1 hg ht s
  have en := ev_in hg ht
  have ls := (lin_same h1 ht).2
  have le := @lin_ev n h1 (gI h) hg e ht
  have li := @lin_in e
  unfold asgZ evaP
  rw [if_neg (by rw [s.2.1.1]; simp), al]
  generalize evT (gI h) e = t at *
  have ea : (alone t).1 = (t.1, t.1) := by unfold alone; rw [if_pos he]
  have o := of_cc (c := t.1) (by omega)
  rw [ea]
  unfold asgR
  rw [if_neg (by dsimp only; omega)]
  generalize linP e = L at *
  rcases L with _ | ⟨y, b⟩
  · have := sg_set s vx (c := t.1) (by omega)
    unfold setC at this
    rw [o.1, o.2] at this
    exact this
  · have hy := ls y b rfl
    have hb := li rfl
    have ev := le rfl he
    have ye := isEnd_of (n := n) h0 (x := y) (by omega)
    have e3 := vz_end h (y := y) (by omega)
    rw [← e3] at ev
    have pc := sg_copy s vx ye hb (by rw [← ev]; omega)
    rw [← ev] at pc
    exact sg_met pc (isVar_end vx) fun _ => by dsimp only; rw [o.1, o.2, upd_at]; omega
end
end Go.Proofs.YtlgmofjjjhbgkaaGreat.Sx.Z
namespace Go.Proofs.YtlgmofjjjhbgkaaGreat.Sx.Z
open Go.RowKit
theorem dok_i32 {d : D} (h : DOk (.int .i32) d) : -2147483648 ≤ d.toI ∧ d.toI ≤ 2147483647 := by
  cases h with
  | int k d h => simp [Lit.wf, IntKind.min, IntKind.max, IntKind.bits, IntKind.signed] at h; omega
def hz (H : Nat → Int) : Nat → Int := fun q => if q < 3 then H q else 0
end Go.Proofs.YtlgmofjjjhbgkaaGreat.Sx.Z
namespace Go.Proofs.YtlgmofjjjhbgkaaGreat.Sx.Z
open Go.RowKit
def hP (op a b : Int) : Bool := if op = 1 then a == b else if op = 2 then a != b else if op = 3 then decide (a < b) else if op = 4 then decide (a ≤ b) else if op = 5 then decide (a > b) else (op == 6) && decide (a ≥ b)
section
variable {n : Int} {z : Zs} (g : Good n z) (h1 : 1 ≤ n) {L R : Xp} (hL : Tm n L) (hR : Tm n R)
include g h1 hL hR
end
end Go.Proofs.YtlgmofjjjhbgkaaGreat.Sx.Z
namespace Go.Proofs.YtlgmofjjjhbgkaaGreat.Sx.Z
open Go.RowKit
/-- One process of two nodes, with an edge. -/
def grD (es : List (List D)) : D := .l [[.i 2, .l es, .l []]]
def edS : List D := [D.i 0, D.i 1, D.i 1, D.i 0, D.i 0, D.i 0, D.i 1, D.i 3, D.i 0, D.l [], D.i 0, D.i 0, D.i 0, D.i 0, D.l [], D.i 0, D.i 0, D.i 0, D.l []]
theorem upd_vz (h : Nat → Int) (k : Nat) (c : Int) : upd (vz h) (k + 1) c = vz (upd h k c) := by
  funext q
  unfold vz
  by_cases hq : q = k + 1
  · subst hq
    rw [upd_at, if_neg (by omega), Nat.add_sub_cancel, upd_at]
  · rw [upd_ne hq]
    by_cases h0 : q = 0
    · rw [if_pos h0, if_pos h0]
    · rw [if_neg h0, if_neg h0, upd_ne (by omega)]
theorem zero_sg {n : Int} (hn : 0 ≤ n ∧ n ≤ 6) : Sg n (false, fun _ => 0) (vz fun _ => 0) := by
  have h := row_sg hn (g := fun _ => 0) (fun i _ => by omega) 0 hn.1
  have e : (fun q : Nat => if q = 0 then (0 : Int) else if q ≤ 0 then (0 : Int) else 0) = vz (fun _ => 0) := funext fun q => by unfold vz; split <;> simp
  rw [← e]
  exact h
theorem sg_lohi {n : Int} {z : Zs} {h : Nat → Int} (s : Sg n z (vz h)) {v : Int} (hv : 0 ≤ v ∧ v < n) : itvLo n z.1 z.2 v = gI h v ∧ itvHi n z.1 z.2 v = gI h v := by
  have a := sg_itv s hv
  rw [itD_pr (m := n.toNat) (by omega)] at a
  exact ⟨congrArg Prod.fst a, congrArg Prod.snd a⟩
theorem asg_one {n : Int} {z : Zs} {h : Nat → Int} (h1 : 1 ≤ n) (hg : InV n (gI h)) {e : Xp} (ht : Tm n e) (s : Sg n z (vz h)) {x : Int} (hx : 0 ≤ x ∧ x < n) :
    evaP n.toNat n z e = alone (evT (gI h) e) ∧ ((evT (gI h) e).2 = 0 → Sg n (asgZ n x e z) (vz (upd h x.toNat (evT (gI h) e).1))) ∧ ((evT (gI h) e).2 ≠ 0 → asgZ n x e z = (true, fun _ => 0)) := by
  have e1 : evaP n.toNat n z e = alone (evT (gI h) e) := by
    unfold evaP
    rw [if_neg (by rw [s.2.1.1]; decide)]
    exact eva_alone s.1 h1 hg ht s
  refine ⟨e1, fun he => ?_, fun he => ?_⟩
  · have := asg_sg s.1 h1 hg ht s hx he
    rwa [show (x + 1).toNat = x.toNat + 1 by omega, upd_vz] at this
  · unfold asgZ
    rw [e1]
    unfold alone
    rw [if_neg he]
    exact if_pos (show (0 : Int) < 1 by decide)
theorem nonZ_sg {n : Int} {z : Zs} {p : Nat → Int} (s : Sg n z p) : nonZ z = z := if_neg (by rw [s.2.1.1]; decide)
theorem ex_nil (k n v : Int) : ex k n v (.l []) = .mk k n v [] := by
  show Xp.mk k n v (exs _) = _
  rw [List.length_eq_zero_iff.1 (exs_len (.l []))]
/-- The number 3, assigned where one variable is 0. -/
theorem three : Sg 1 (stpZ (grD [edS]) 0 0 1 (false, fun _ => 0)) (vz (upd (fun _ => 0) 0 3)) ∧ stpK (grD [edS]) 0 0 1 (false, fun _ => 0) = .l [] := by
  have hg : InV 1 (gI fun _ => 0) := fun v _ _ => by show -2147483648 ≤ (0 : Int) ∧ (0 : Int) ≤ 2147483647; omega
  have s0 := zero_sg (n := 1) (by omega)
  obtain ⟨a, b, _⟩ := asg_one (by omega) hg (Tm.num (w := 1) 3 (by omega) (by omega)) s0 (x := 0) (by omega)
  have ev : evT (gI fun _ => 0) (.mk 1 3 0 []) = (3, 0) := by rw [ev_0, if_pos rfl]
  rw [ev] at a b
  have hZ : stpZ (grD [edS]) 0 0 1 (false, fun _ => 0) = asgZ 1 0 (ex 1 3 0 (.l [])) (false, fun _ => 0) := rfl
  have hK : stpK (grD [edS]) 0 0 1 (false, fun _ => 0) = kE (.l []) (evaP (1 : Int).toNat 1 (false, fun _ => 0) (ex 1 3 0 (.l []))).2 := rfl
  rw [hZ, hK, ex_nil, a]
  exact ⟨b rfl, rfl⟩
noncomputable def tstepsS : FSpec := fun ds _ => match ds with
  | [] => some { val := .one (.sc (.bool (.sym (true)))), vc := [] }
  | _ => none
noncomputable def tstepsC : Con := con [] tstepsS
theorem tsteps_ok : ConOK Tryz.prog 13 tstepsC := by
  refine fn_ob tt_ok mixed Tryz.func13 rfl (fun _ _ => by kernel_rfl) (A := fun ds => ⟨fun _ => Cons.of [(9, tstepC), (7, tstartC), (11, temptyC), (16, iconstC), (29, tnoneC)], fun _ => none, fun k => match k, ds with | 2, [] => some { ι := Bool, pre := fun _ _ => True, μ := fun _ => 0, st := fun s _ => famR s [(1, .one (.sc (.ptr (s.nx - 1) (.lit 0))))] [0] [(s.nx - 1, .own 39 ([.c .nils, .c (.rows 35 (grD [edS])), .c (.rows 3 (.l [[.i 1]]))])), (s.nx + 32, .gone), (s.nx + 40, .gone)] [] } | _, _ => none⟩) (fun _ _ => (cons_cons tstep_ok (cons_cons tstart_ok (cons_cons tempty_ok (cons_cons iconst_ok (cons_cons tnone_ok cons_nil)))))) (by kernel_rfl) ?_
  intro ds fr
  unfold tstepsS
  split
  · skip
    refine kmp (q := ((0 : Nat) + (1 : Nat) ≤
 (D.l
 [[D.i (0 : Int), D.i (1 : Int), D.i (1 : Int), D.i (0 : Int), D.i (0 : Int), D.i (0 : Int), D.i (1 : Int), D.i (3 : Int), D.i (0 : Int), D.l [],
 D.i (0 : Int), D.i (0 : Int), D.i (0 : Int), D.i (0 : Int), D.l [], D.i (0 : Int), D.i (0 : Int), D.i (0 : Int), D.l []]]).len ∧
 ∃ (i : Bool),
 True ∧
 (0 : Nat) + (1 : Nat) ≤
 (D.l
 [[D.i (2 : Int),
 (D.l
 [[D.i (0 : Int), D.i (1 : Int), D.i (1 : Int), D.i (0 : Int), D.i (0 : Int), D.i (0 : Int), D.i (1 : Int), D.i (3 : Int),
 D.i (0 : Int), D.l [], D.i (0 : Int), D.i (0 : Int), D.i (0 : Int), D.i (0 : Int), D.l [], D.i (0 : Int), D.i (0 : Int),
 D.i (0 : Int), D.l []]]).sub
 (0 : Nat) ((0 : Nat) + (1 : Nat)),
 D.l []]]).len ∧
 (0 : Nat) + (1 : Nat) ≤ (D.l [[D.i (1 : Int)]]).len ∧
 (0 : Nat) + (1 : Nat) ≤ (D.l [[D.i (1 : Int)]]).len ∧
 (0 : Nat) + (1 : Nat) ≤
 (D.l
 [[D.i (2 : Int),
 (D.l
 [[D.i (0 : Int), D.i (1 : Int), D.i (1 : Int), D.i (0 : Int), D.i (0 : Int), D.i (0 : Int), D.i (1 : Int), D.i (3 : Int),
 D.i (0 : Int), D.l [], D.i (0 : Int), D.i (0 : Int), D.i (0 : Int), D.i (0 : Int), D.l [], D.i (0 : Int), D.i (0 : Int),
 D.i (0 : Int), D.l []]]).sub
 (0 : Nat) ((0 : Nat) + (1 : Nat)),
 D.l []]]).len ∧
 (0 : Nat) + (1 : Nat) ≤
 (D.l
 [[D.i (2 : Int),
 (D.l
 [[D.i (0 : Int), D.i (1 : Int), D.i (1 : Int), D.i (0 : Int), D.i (0 : Int), D.i (0 : Int), D.i (1 : Int), D.i (3 : Int),
 D.i (0 : Int), D.l [], D.i (0 : Int), D.i (0 : Int), D.i (0 : Int), D.i (0 : Int), D.l [], D.i (0 : Int), D.i (0 : Int),
 D.i (0 : Int), D.l []]]).sub
 (0 : Nat) ((0 : Nat) + (1 : Nat)),
 D.l []]]).len ∧
 (0 : Nat) + (1 : Nat) ≤ (D.l [[D.i (1 : Int)]]).len ∧
 false = false ∧
 List.drop ((0 : Nat))
 (List.take ((0 : Nat) + (1 : Nat))
 [[D.i (2 : Int),
 (D.l
 [[D.i (0 : Int), D.i (1 : Int), D.i (1 : Int), D.i (0 : Int), D.i (0 : Int), D.i (0 : Int), D.i (1 : Int),
 D.i (3 : Int), D.i (0 : Int), D.l [], D.i (0 : Int), D.i (0 : Int), D.i (0 : Int), D.i (0 : Int), D.l [],
 D.i (0 : Int), D.i (0 : Int), D.i (0 : Int), D.l []]]).sub
 (0 : Nat) ((0 : Nat) + (1 : Nat)),
 D.l []]]) =
 [[D.i (2 : Int), D.l [edS], D.l []]] ∧
 List.drop ((0 : Nat)) (List.take ((0 : Nat) + (1 : Nat)) [[D.i (1 : Int)]]) = [[D.i (1 : Int)]]) ∧
 ∀ (i : Bool),
 True →
 (D.l []).len ≤ (1000 : Nat) ∧
 (NumOK (topN (varP (D.l [[D.i (1 : Int)]]) (0 : Int))) false
 (itD (topN (varP (D.l [[D.i (1 : Int)]]) (0 : Int))).toNat (topN (varP (D.l [[D.i (1 : Int)]]) (0 : Int))) (false, fun (x : Nat) => (0 : Int)))
 false fun (x : Nat) => (0 : Int)) ∧
 false = false ∧
 (0 : Int) < topN (varP (D.l [[D.i (1 : Int)]]) (0 : Int)) ∧
 topN (varP (D.l [[D.i (1 : Int)]]) (0 : Int)) = topN (varP (D.l [[D.i (1 : Int)]]) (0 : Int)) ∧
 edgeB (D.l []) (grD [edS]) (0 : Int) (0 : Int) = true ∧
 (repD (D.l []).len [D.i (0 : Int), D.i (0 : Int)]).len = (D.l []).len ∧
 (repD (D.l []).len [D.i (1 : Int)]).len = (D.l []).len ∧
 (D.l []).len ≤ (1000 : Nat) ∧
 ((1 : Int) = (0 : Int) ∨ (1 : Int) = (1 : Int) ∨ (1 : Int) = (5 : Int) ∨ (1 : Int) = (6 : Int)) ∧
 (stpK (grD [edS]) (0 : Int) (0 : Int) (topN (varP (D.l [[D.i (1 : Int)]]) (0 : Int))) (false, fun (x : Nat) => (0 : Int))).len ≤
 (1 : Nat) ∧
 ((!(nonZ
 (stpZ (grD [edS]) (0 : Int) (0 : Int) (topN (varP (D.l [[D.i (1 : Int)]]) (0 : Int)))
 (false, fun (x : Nat) => (0 : Int)))).fst &&
 (↑(itD (topN (varP (D.l [[D.i (1 : Int)]]) (0 : Int))).toNat (topN (varP (D.l [[D.i (1 : Int)]]) (0 : Int)))
 (nonZ
 (stpZ (grD [edS]) (0 : Int) (0 : Int) (topN (varP (D.l [[D.i (1 : Int)]]) (0 : Int)))
 (false, fun (x : Nat) => (0 : Int))))).len :
 Int) ==
 (1 : Int)) =
 true ∧
 True →
 (0 : Nat) <
 (itD (topN (varP (D.l [[D.i (1 : Int)]]) (0 : Int))).toNat (topN (varP (D.l [[D.i (1 : Int)]]) (0 : Int)))
 (nonZ
 (stpZ (grD [edS]) (0 : Int) (0 : Int) (topN (varP (D.l [[D.i (1 : Int)]]) (0 : Int)))
 (false, fun (x : Nat) => (0 : Int))))).len) ∧
 ((!(nonZ
 (stpZ (grD [edS]) (0 : Int) (0 : Int) (topN (varP (D.l [[D.i (1 : Int)]]) (0 : Int)))
 (false, fun (x : Nat) => (0 : Int)))).fst &&
 (↑(itD (topN (varP (D.l [[D.i (1 : Int)]]) (0 : Int))).toNat (topN (varP (D.l [[D.i (1 : Int)]]) (0 : Int)))
 (nonZ
 (stpZ (grD [edS]) (0 : Int) (0 : Int) (topN (varP (D.l [[D.i (1 : Int)]]) (0 : Int)))
 (false, fun (x : Nat) => (0 : Int))))).len :
 Int) ==
 (1 : Int) &&
 (itvLo (topN (varP (D.l [[D.i (1 : Int)]]) (0 : Int)))
 (nonZ
 (stpZ (grD [edS]) (0 : Int) (0 : Int) (topN (varP (D.l [[D.i (1 : Int)]]) (0 : Int)))
 (false, fun (x : Nat) => (0 : Int)))).fst
 (nonZ
 (stpZ (grD [edS]) (0 : Int) (0 : Int) (topN (varP (D.l [[D.i (1 : Int)]]) (0 : Int)))
 (false, fun (x : Nat) => (0 : Int)))).snd
 (↑((0 : Nat)) : Int) ==
 ofLo (3 : Int) (3 : Int) &&
 (itvHi (topN (varP (D.l [[D.i (1 : Int)]]) (0 : Int)))
 (nonZ
 (stpZ (grD [edS]) (0 : Int) (0 : Int) (topN (varP (D.l [[D.i (1 : Int)]]) (0 : Int)))
 (false, fun (x : Nat) => (0 : Int)))).fst
 (nonZ
 (stpZ (grD [edS]) (0 : Int) (0 : Int) (topN (varP (D.l [[D.i (1 : Int)]]) (0 : Int)))
 (false, fun (x : Nat) => (0 : Int)))).snd
 (↑((0 : Nat)) : Int) ==
 ofHi (3 : Int) (3 : Int) &&
 true)) &&
 (-1 : Int) == (-1 : Int) &&
 (↑(stpK (grD [edS]) (0 : Int) (0 : Int) (topN (varP (D.l [[D.i (1 : Int)]]) (0 : Int)))
 (false, fun (x : Nat) => (0 : Int))).len :
 Int) ==
 (0 : Int)) =
 true ∧
 True →
 (D.l []).len ≤ (1000 : Nat)) ∧
 (!(nonZ
 (stpZ (grD [edS]) (0 : Int) (0 : Int) (topN (varP (D.l [[D.i (1 : Int)]]) (0 : Int)))
 (false, fun (x : Nat) => (0 : Int)))).fst &&
 (↑(itD (topN (varP (D.l [[D.i (1 : Int)]]) (0 : Int))).toNat (topN (varP (D.l [[D.i (1 : Int)]]) (0 : Int)))
 (nonZ
 (stpZ (grD [edS]) (0 : Int) (0 : Int) (topN (varP (D.l [[D.i (1 : Int)]]) (0 : Int)))
 (false, fun (x : Nat) => (0 : Int))))).len :
 Int) ==
 (1 : Int) &&
 (itvLo (topN (varP (D.l [[D.i (1 : Int)]]) (0 : Int)))
 (nonZ
 (stpZ (grD [edS]) (0 : Int) (0 : Int) (topN (varP (D.l [[D.i (1 : Int)]]) (0 : Int)))
 (false, fun (x : Nat) => (0 : Int)))).fst
 (nonZ
 (stpZ (grD [edS]) (0 : Int) (0 : Int) (topN (varP (D.l [[D.i (1 : Int)]]) (0 : Int)))
 (false, fun (x : Nat) => (0 : Int)))).snd
 (↑((0 : Nat)) : Int) ==
 ofLo (3 : Int) (3 : Int) &&
 (itvHi (topN (varP (D.l [[D.i (1 : Int)]]) (0 : Int)))
 (nonZ
 (stpZ (grD [edS]) (0 : Int) (0 : Int) (topN (varP (D.l [[D.i (1 : Int)]]) (0 : Int)))
 (false, fun (x : Nat) => (0 : Int)))).fst
 (nonZ
 (stpZ (grD [edS]) (0 : Int) (0 : Int) (topN (varP (D.l [[D.i (1 : Int)]]) (0 : Int)))
 (false, fun (x : Nat) => (0 : Int)))).snd
 (↑((0 : Nat)) : Int) ==
 ofHi (3 : Int) (3 : Int) &&
 true)) &&
 (-1 : Int) == (-1 : Int) &&
 (↑(stpK (grD [edS]) (0 : Int) (0 : Int) (topN (varP (D.l [[D.i (1 : Int)]]) (0 : Int)))
 (false, fun (x : Nat) => (0 : Int))).len :
 Int) ==
 (0 : Int) &&
 true) =
 true) (by kernel_rfl) ?_
    obtain ⟨s3, k3⟩ := three
    have hv : topN (varP (D.l [[D.i 1]]) 0) = 1 := by kernel_rfl
    rw [hv]
    refine ⟨⟨Nat.le_refl _, true, ?_⟩, fun _ _ => ?_⟩
    · (repeat' apply And.intro) <;> first | trivial | exact Nat.le_refl _ | rfl
    have l3 := sg_lohi s3 (v := ((0 : Nat) : Int)) (by decide)
    have g3 : gI (upd (fun _ => 0) 0 3) ((0 : Nat) : Int) = 3 := rfl
    have e3 : ofLo 3 3 = 3 ∧ ofHi 3 3 = 3 := of_cc (by omega)
    have f3 := s3.2.1.1
    have n3 := numOK_of (z := (false, fun _ => 0)) (zero_sg (n := 1) (by omega)).1
    rw [nonZ_sg s3, k3, l3.1, l3.2, g3, e3.1, e3.2, f3, itD_len]
    exact ⟨Nat.zero_le _, n3, rfl, by decide, rfl, rfl, rfl, rfl, Nat.zero_le _, .inr (.inl rfl), Nat.zero_le _, fun _ => by decide, fun _ => Nat.zero_le _, rfl⟩
  · trivial
end Go.Proofs.YtlgmofjjjhbgkaaGreat.Sx.Z
namespace Go.Proofs.YtlgmofjjjhbgkaaGreat.Sx.Z
open Go.RowKit
/-- Set: nothing is left where nothing was, or where it is set to nothing. -/
theorem set_none {n x lo hi : Int} {z : Zs} (g : Good n z) (hx : isVarP n x = true) (hl : -2147483648 ≤ lo ∧ lo ≤ 2147483647) (hh : -2147483648 ≤ hi ∧ hi ≤ 2147483647) : (metZ n x lo hi (fgZ n x z)).1 = (z.1 || decide (hi < lo)) := by
  have gf := good_fg g x
  by_cases hlt : hi < lo
  · have := (met_none gf hx hlt).1
    rw [this, decide_eq_true hlt, Bool.or_true]
  · rw [decide_eq_false hlt, Bool.or_false]
    cases hz : z.1 with
    | true =>
      have hv := isVarP_lt hx
      have e : metZ n x lo hi z = bndZ n (-1) x (0 - ofLo lo hi) (bndZ n x (-1) (ofHi lo hi) z) := if_neg (by omega)
      rw [fg_true hz, e, bnd_none (z := z) hz, bnd_none hz, hz]
    | false =>
      have hR := R_le n
      have p := pt_fg g hx (pt_at g hz (j := 0) (by omega)) hl
      have e := of_lh (a := lo) (b := hi) (by omega)
      exact ((met_pt gf hx _).2 ⟨p, by rw [upd_at, e.1, e.2]; omega⟩).1
theorem set_itv {n x y lo hi : Int} {z : Zs} (g : Good n z) (hz : z.1 = false) (hx : isVarP n x = true) (hy : isVarP n y = true) (hl : -2147483648 ≤ lo ∧ lo ≤ hi ∧ hi ≤ 2147483647) : itvLo n (metZ n x lo hi (fgZ n x z)).1 (metZ n x lo hi (fgZ n x z)).2 y = (if y = x then lo else itvLo n z.1 z.2 y) ∧ itvHi n (metZ n x lo hi (fgZ n x z)).1 (metZ n x lo hi (fgZ n x z)).2 y = (if y = x then hi else itvHi n z.1 z.2 y) := by
  have hR := R_le n
  have gf := good_fg g x
  have gm := good_met gf x lo hi
  have e := of_lh hl
  obtain ⟨x1, x2, x3⟩ := isVar_R hx
  obtain ⟨y1, y2, y3⟩ := isVar_R hy
  have mk := fun (p : Nat → Int) (hp : Pt n z p) (b : Int) (hb : lo ≤ b ∧ b ≤ hi) => (met_pt (lo := lo) (hi := hi) gf hx _).2 ⟨pt_fg g hx hp (b := b) (by omega), by rw [upd_at, e.1, e.2]; exact hb⟩
  by_cases h : y = x
  · subst h
    rw [if_pos rfl, if_pos rfl]
    have p := pt_at g hz (j := 0) (by omega)
    exact (itv_pts gm hy ⟨_, mk _ p lo (by omega), upd_at _ _ _⟩ ⟨_, mk _ p hi (by omega), upd_at _ _ _⟩ fun v hv => by
      have := ((met_pt gf hy v).1 hv).2
      rwa [e.1, e.2] at this).2
  · rw [if_neg h, if_neg h]
    obtain ⟨z1, z2⟩ := itv_exact g hz hy
    have d0 := g.diag 0 (by omega)
    have dy := g.diag _ y1
    simp only [Nat.zero_mul, Nat.zero_add, Nat.add_zero] at d0
    have ne : (y + 1).toNat ≠ (x + 1).toNat := by omega
    refine (itv_pts gm hy ⟨_, mk _ (pt_at g hz (j := (y + 1).toNat) y1) lo (by omega), ?_⟩ ⟨_, mk _ (pt_at g hz (j := 0) (by omega)) lo (by omega), ?_⟩ fun v hv => ?_).2
    · rw [upd_ne ne, z1, dy, Nat.zero_mul, Nat.zero_add]
    · rw [upd_ne ne, z2]; simp only [Nat.zero_mul, Nat.add_zero]; omega
    · have p := ((met_pt gf hx v).1 hv).1
      have t1 := p.2.2 _ 0 y1 (by omega)
      have t2 := p.2.2 0 _ (by omega) y1
      rw [fg_false hz hx] at t1 t2
      dsimp only at t1 t2
      rw [fg_at y1 (by omega) hR.2.1, if_neg (by omega), if_neg (by omega)] at t1
      rw [fg_at (by omega) y1 hR.2.1, if_neg (by omega), if_neg (by omega)] at t2
      have := p.2.1
      simp only [Nat.zero_mul, Nat.zero_add, Nat.add_zero] at t1 t2
      rw [z1, z2]
      omega
def two (a b : Int) (j : Nat) : Int := if j = 0 then a else b
end Go.Proofs.YtlgmofjjjhbgkaaGreat.Sx.Z
