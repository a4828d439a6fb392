/-
  eval.Eval, Assign, Assume.; trans: assert, pass (nothing, an assignment, an assertion, an input).; math/bits.Len64 of 0 and 1.; queue's copies: rows of Itvs of one's own.; rule: Start, Has, List, move.
-/
import Derived.Test.YtlgmofjjjhbgkaaGreatM22
import Derived.Test.YtlgmofjjjhbgkaaGreatM16
import Derived.Test.YtlgmofjjjhbgkaaGreatM15
import Derived.Test.YtlgmofjjjhbgkaaGreatM14
import Derived.Deep.AppendLies
import Derived.Laws.OwnMore
import Derived.Maps.AppendAt
import Derived.Deep.RegionLaw
import Derived.RegionTactic
import Derived.Outline
import Derived.Laws.CopyOwn
namespace Go.Proofs.YtlgmofjjjhbgkaaGreat.Sx.Z
open Go.RowKit
theorem lin_in : ∀ {e : Xp} {x n : Int}, linP e = some (x, n) → -1099511627776 ≤ n ∧ n ≤ 1099511627776 := by
  have am : ∀ {a b x n : Int}, amtP a b = some (x, n) → -1099511627776 ≤ n ∧ n ≤ 1099511627776 := fun {a b x n} h => by
    unfold amtP at h
    split at h
    · cases h
    · obtain ⟨rfl, rfl⟩ := Prod.mk.inj (Option.some.inj h); omega
  have cm : ∀ {k x n : Int} {l r}, combP k l r = some (x, n) → -1099511627776 ≤ n ∧ n ≤ 1099511627776 := fun {k x n l r} h => by
    rcases l with _ | ⟨u, a⟩
    · cases h
    · rcases r with _ | ⟨v, b⟩
      · cases h
      · rw [comb_some] at h
        split at h
        · exact am h
        · split at h
          · exact am h
          · split at h
            · exact am h
            · cases h
  have vr : ∀ {v x n : Int}, some (v, (0 : Int)) = some (x, n) → -1099511627776 ≤ n ∧ n ≤ 1099511627776 := fun h => by
    obtain ⟨rfl, rfl⟩ := Prod.mk.inj (Option.some.inj h); omega
  intro e x n h
  match e with
  | .mk k m v [a, b] =>
    rw [linP] at h
    split at h
    · exact am h
    · split at h
      · exact vr h
      · split at h
        · exact cm h
        · cases h
  | .mk k m v [] =>
    rw [linP.eq_2 _ _ _ _ (fun a b h => by cases h)] at h
    split at h
    · exact am h
    · split at h
      · exact vr h
      · split at h <;> cases h
  | .mk k m v [a] =>
    rw [linP.eq_2 _ _ _ _ (fun a b h => by cases h)] at h
    split at h
    · exact am h
    · split at h
      · exact vr h
      · split at h <;> cases h
  | .mk k m v (a :: b :: c :: r) =>
    rw [linP.eq_2 _ _ _ _ (fun a b h => by cases h)] at h
    split at h
    · exact am h
    · split at h
      · exact vr h
      · split at h <;> cases h
noncomputable def evaP (m : Nat) (n : Int) (z : Zs) (e : Xp) : IE := if z.1 = true then noE else recP (itD m n z) e
def asgR (n x : Int) (l : Option (Int × Int)) (i : Int × Int) (z : Zs) : Zs := if i.2 < i.1 then (true, fun _ => 0) else match l with
  | some (y, b) => metZ n x i.1 i.2 (copyZ n x y b z)
  | none => metZ n x i.1 i.2 (fgZ n x z)
noncomputable def asgZ (n : Int) (x : Int) (e : Xp) (z : Zs) : Zs := asgR n x (linP e) (evaP n.toNat n z e).1 z
def bdZ (n op x y b : Int) (z : Zs) : Zs := if op = 1 then bndZ n y x (0 - b) (bndZ n x y b z) else if op = 3 then bndZ n x y (b - 1) z else if op = 4 then bndZ n x y b z else if op = 5 then bndZ n y x (0 - b - 1) z else if op = 6 then bndZ n y x (0 - b) z else z
def hldZ (n op : Int) (L R : Xp) (s t : Int × Int) (z : Zs) : Zs :=
  let z1 := match linP L with | some (x, m) => metZ n x (s.1 - m) (s.2 - m) z | none => z
  let z2 := match linP R with | some (y, b) => metZ n y (t.1 - b) (t.2 - b) z1 | none => z1
  match linP L, linP R with
  | some (x, m), some (y, b) => if x ≠ y then bdZ n op x y (b - m) z2 else z2
  | _, _ => z2
def asmT (n op : Int) (L R : Xp) (T : (Int × Int) × (Int × Int)) (er : Bool × Bool) (z : Zs) : Zs × (Bool × Bool) := if T.1.2 < T.1.1 ∨ T.2.2 < T.2.1 then ((true, fun _ => 0), er) else (hldZ n op L R T.1 T.2 z, er)
def asmB (n op : Int) (L R : Xp) (B : (Int × Int) × (Int × Int) × (Bool × Bool)) (z : Zs) : Zs × (Bool × Bool) := asmT n op L R (tstI op B.1 B.2.1) B.2.2 z
noncomputable def asmZ (n op : Int) (L R : Xp) (z : Zs) : Zs × (Bool × Bool) := if z.1 = true then ((true, fun _ => 0), (false, false)) else asmB n op L R (bothI (recP (itD n.toNat n z) L) (recP (itD n.toNat n z) R)) z
theorem nm_none : Nm (1, 0) := .inl rfl
theorem tst_nm (op : Int) (a b : Int × Int) : Nm (tstI op a b).1 ∧ Nm (tstI op a b).2 := by
  have u : ∀ a b, Nm (unlI a b) := fun a b => by
    unfold unlI
    (repeat' split) <;> exact nm_of _ _
  unfold tstI
  (repeat' split) <;> first | exact ⟨nm_none, nm_none⟩ | exact ⟨nm_of _ _, nm_of _ _⟩ | exact ⟨u _ _, u _ _⟩
theorem nm_rz {p : Int × Int} (h : Nm p) (hp : ¬ p.2 < p.1) : Rz p := by
  rcases h with rfl | h
  · exact absurd (by decide) hp
  · exact h
/-- What a Num of so many variables tells. -/
structure NumOK (n : Int) (c : Bool) (I : D) (e : Bool) (f : Nat → Int) : Prop where
  good : Good n (e, f)
  c : c = e
  rows : I.rows = (itD n.toNat n (e, f)).rows
theorem rows_eq {d d' : D} (h : d.rows = d'.rows) : d.len = d'.len ∧ ∀ i j, d.el i j = d'.el i j := by
  unfold D.len D.el
  rw [h]
  exact ⟨rfl, fun _ _ => rfl⟩
theorem rec_rows {I J : D} (h : I.rows = J.rows) : ∀ m e, SizeOf.sizeOf e < m → recP I e = recP J e := by
  obtain ⟨h1, h2⟩ := rows_eq h
  have hp : ∀ v, prI I v = prI J v := fun v => by unfold prI; rw [h2, h2]
  intro m
  induction m with
  | zero => intro e h; omega
  | succ m ih =>
    intro e hs
    match e with
    | .mk k n v [] => rw [recP.eq_3 _ _ _ _ _ (fun a h => by cases h) (fun a b h => by cases h), recP.eq_3 _ _ _ _ _ (fun a h => by cases h) (fun a b h => by cases h), h1, hp]
    | .mk k n v [a] =>
      have : SizeOf.sizeOf a < m := by simp at hs; omega
      rw [recP, recP, h1, hp, ih a this]
    | .mk k n v [a, b] =>
      have : SizeOf.sizeOf a < m ∧ SizeOf.sizeOf b < m := by simp at hs; omega
      rw [recP, recP, h1, hp, ih a this.1, ih b this.2]
    | .mk k n v (a :: b :: c :: r) => rw [recP.eq_3 _ _ _ _ _ (fun a h => by cases h) (fun a b h => by cases h), recP.eq_3 _ _ _ _ _ (fun a h => by cases h) (fun a b h => by cases h), h1, hp]
theorem itv_nm (n : Int) (c : Bool) (f : Nat → Int) (x : Int) : Nm (itvLo n c f x, itvHi n c f x) := by
  unfold itvLo itvHi
  split
  · exact .inl rfl
  · exact nm_of _ _
theorem itD_pr {m : Nat} {v : Int} (h : 0 ≤ v ∧ v < m) (n : Int) (z : Zs) : prI (itD m n z) v = (itvLo n z.1 z.2 v, itvHi n z.1 z.2 v) := by
  obtain ⟨h1, h2⟩ := itD_el (m := m) (j := v.toNat) (by omega) n z
  unfold prI
  rw [h1, h2, Int.toNat_of_nonneg h.1]
theorem itD_rg {n : Int} (h : 0 ≤ n ∧ n ≤ 6) (z : Zs) : RgI (itD n.toNat n z) := by
  refine ⟨by rw [itD_len]; omega, fun v h0 h1 => ?_⟩
  rw [itD_len] at h1
  rw [itD_pr ⟨h0, h1⟩]
  exact (itv_nm _ _ _ _).rg
section
variable {n : Int} {c : Bool} {I : D} {e : Bool} {f : Nat → Int} (h : NumOK n c I e f)
include h
theorem NumOK.n0 : 0 ≤ n ∧ n ≤ 6 := h.good.n0
theorem NumOK.len : I.len = n.toNat := (rows_eq h.rows).1.trans (itD_len _ _ _)
theorem NumOK.rg : RgI I := by
  obtain ⟨h1, h2⟩ := rows_eq h.rows
  have := itD_rg h.n0 (e, f)
  refine ⟨by rw [h1]; exact this.1, fun v h0 hv => ?_⟩
  have hp : prI I v = prI (itD n.toNat n (e, f)) v := by unfold prI; rw [h2, h2]
  rw [hp]
  exact this.2 v h0 (by rw [← h1]; exact hv)
theorem NumOK.recs (x : Xp) : recP I x = recP (itD n.toNat n (e, f)) x := rec_rows h.rows _ x (Nat.lt_succ_self _)
theorem NumOK.top : topN (I.len : Int) = n := by have := h.n0; rw [h.len]; unfold topN; omega
theorem NumOK.le : I.len ≤ 1000 := h.rg.1
end
theorem numOK_of {n : Int} {z : Zs} (h : Good n z) : NumOK n z.1 (itD n.toNat n z) z.1 z.2 := ⟨h, rfl, rfl⟩
noncomputable def evalS : FSpec := fun ds _ => match ds with
  | [.i k, .i m, .i v, .d d, .b c, .d I, .i n, .b e, .f f] => some { val := .tup [.agg [.c (.int .i64 (.sym ((evaP n.toNat n (e, f) (ex k m v d)).1.1))), .c (.int .i64 (.sym ((evaP n.toNat n (e, f) (ex k m v d)).1.2)))], .agg [.c (.bool (.sym ((evaP n.toNat n (e, f) (ex k m v d)).2).1)), .c (.bool (.sym ((evaP n.toNat n (e, f) (ex k m v d)).2).2))]], vc := [NumOK n c I e f] }
  | _ => none
noncomputable def evalC : Con := con [xpA, numA] evalS
theorem eval_ok : ConOK Tryz.prog 76 evalC := by
  refine fn_ob tt_ok mixed Tryz.func76 rfl (fun _ _ => by kernel_rfl) (A := fun ds => ⟨fun _ => Cons.of [(106, reckC), (37, inoneC)], fun _ => none, fun _ => none⟩) (fun _ _ => (cons_cons reck_ok (cons_cons inone_ok cons_nil))) (by kernel_rfl) ?_
  intro ds fr
  unfold evalS
  split
  · rename_i k m v d c I n e f
    refine kmp (q := NumOK n c I e f →
 (c = true →
 (1 : Int) = (evaP n.toNat n (e, f) (ex k m v d)).fst.fst ∧
 (0 : Int) = (evaP n.toNat n (e, f) (ex k m v d)).fst.snd ∧
 false = (evaP n.toNat n (e, f) (ex k m v d)).snd.fst ∧ false = (evaP n.toNat n (e, f) (ex k m v d)).snd.snd) ∧
 (c = false →
 RgI I ∧
 (recP I (ex k m v d)).fst.fst = (evaP n.toNat n (e, f) (ex k m v d)).fst.fst ∧
 (recP I (ex k m v d)).fst.snd = (evaP n.toNat n (e, f) (ex k m v d)).fst.snd ∧
 (recP I (ex k m v d)).snd.fst = (evaP n.toNat n (e, f) (ex k m v d)).snd.fst ∧
 (recP I (ex k m v d)).snd.snd = (evaP n.toNat n (e, f) (ex k m v d)).snd.snd)) (by kernel_rfl) ?_
    intro h
    have hr := h.recs (ex k m v d)
    have e1 : evaP n.toNat n (e, f) (ex k m v d) = if c = true then noE else recP I (ex k m v d) := by unfold evaP; rw [hr, h.c]
    rw [e1]
    refine ⟨fun hc => ?_, fun hc => ⟨h.rg, ?_⟩⟩
    · rw [if_pos hc]; exact ⟨rfl, rfl, rfl, rfl⟩
    · rw [if_neg (by rw [hc]; simp)]; exact ⟨rfl, rfl, rfl, rfl⟩
  · trivial
noncomputable def assignS : FSpec := fun ds _ => match ds with
  | [.b c, .d I, .i n, .b e, .f f, .i x, .i k, .i m, .i v, .d d] => some { val := .tup [.agg [.c (.bool (.sym (asgZ n x (ex k m v d) (e, f) : Zs).1)), .c (.rows 53 (itD (n.toNat) (n) (asgZ n x (ex k m v d) (e, f)))), .c (.int .i64 (.sym (n))), .c (.bool (.sym (asgZ n x (ex k m v d) (e, f) : Zs).1)), .ints .i64 (.lit 49) (asgZ n x (ex k m v d) (e, f) : Zs).2], .agg [.c (.bool (.sym ((evaP n.toNat n (e, f) (ex k m v d)).2).1)), .c (.bool (.sym ((evaP n.toNat n (e, f) (ex k m v d)).2).2))]], vc := [NumOK n c I e f] }
  | _ => none
noncomputable def assignC : Con := con [numA, iA, xpA] assignS
theorem assign_ok : ConOK Tryz.prog 60 assignC := by
  refine fn_ob tt_ok mixed Tryz.func60 rfl (fun _ _ => by kernel_rfl) (A := fun ds => ⟨fun _ => Cons.of [(76, evalC), (48, emptyC), (57, nnoneC), (77, linC), (79, ncopyC), (78, nmeetC), (26, nsetC)], fun _ => none, fun _ => none⟩) (fun _ _ => (cons_cons eval_ok (cons_cons empty_ok (cons_cons nnone_ok (cons_cons lin_ok (cons_cons ncopy_ok (cons_cons nmeet_ok (cons_cons nset_ok cons_nil)))))))) (by kernel_rfl) ?_
  intro ds fr
  unfold assignS
  split
  · rename_i c I n e f x k m v d
    refine kmp (q := NumOK n c I e f →
 NumOK n c I e f ∧
 (decide ((evaP n.toNat n (e, f) (ex k m v d)).fst.snd < (evaP n.toNat n (e, f) (ex k m v d)).fst.fst) = true →
 true = (asgZ n x (ex k m v d) (e, f)).fst ∧
 List.map
 (fun (j : Nat) =>
 [D.i (itvLo (topN (↑I.len : Int)) true (fun (x : Nat) => (0 : Int)) (↑j : Int)),
 D.i (itvHi (topN (↑I.len : Int)) true (fun (x : Nat) => (0 : Int)) (↑j : Int))])
 (List.range (topN (↑I.len : Int)).toNat) =
 List.map
 (fun (j : Nat) =>
 [D.i (itvLo n (asgZ n x (ex k m v d) (e, f)).fst (asgZ n x (ex k m v d) (e, f)).snd (↑j : Int)),
 D.i (itvHi n (asgZ n x (ex k m v d) (e, f)).fst (asgZ n x (ex k m v d) (e, f)).snd (↑j : Int))])
 (List.range n.toNat) ∧
 topN (↑I.len : Int) = n ∧
 true = (asgZ n x (ex k m v d) (e, f)).fst ∧
 (∀ (o : Nat), o < nat_lit 49 → (0 : Int) = (asgZ n x (ex k m v d) (e, f)).snd o) ∧
 (evaP n.toNat n (e, f) (ex k m v d)).snd.fst = (evaP n.toNat n (e, f) (ex k m v d)).snd.fst ∧
 (evaP n.toNat n (e, f) (ex k m v d)).snd.snd = (evaP n.toNat n (e, f) (ex k m v d)).snd.snd) ∧
 (decide ((evaP n.toNat n (e, f) (ex k m v d)).fst.snd < (evaP n.toNat n (e, f) (ex k m v d)).fst.fst) = false →
 (oB (linP (ex k m v d)) = true →
 Good n (e, f) ∧
 I.len ≤ (1000 : Nat) ∧
 Good n
 ((copyZ n x (oX (linP (ex k m v d))) (oY (linP (ex k m v d))) (e, f)).fst,
 (copyZ n x (oX (linP (ex k m v d))) (oY (linP (ex k m v d))) (e, f)).snd) ∧
 (itD I.len n (copyZ n x (oX (linP (ex k m v d))) (oY (linP (ex k m v d))) (e, f))).len ≤ (1000 : Nat) ∧
 (metZ n x (evaP n.toNat n (e, f) (ex k m v d)).fst.fst (evaP n.toNat n (e, f) (ex k m v d)).fst.snd
 ((copyZ n x (oX (linP (ex k m v d))) (oY (linP (ex k m v d))) (e, f)).fst,
 (copyZ n x (oX (linP (ex k m v d))) (oY (linP (ex k m v d))) (e, f)).snd)).fst =
 (asgZ n x (ex k m v d) (e, f)).fst ∧
 List.map
 (fun (j : Nat) =>
 [D.i
 (itvLo n
 (metZ n x (evaP n.toNat n (e, f) (ex k m v d)).fst.fst (evaP n.toNat n (e, f) (ex k m v d)).fst.snd
 ((copyZ n x (oX (linP (ex k m v d))) (oY (linP (ex k m v d))) (e, f)).fst,
 (copyZ n x (oX (linP (ex k m v d))) (oY (linP (ex k m v d))) (e, f)).snd)).fst
 (metZ n x (evaP n.toNat n (e, f) (ex k m v d)).fst.fst (evaP n.toNat n (e, f) (ex k m v d)).fst.snd
 ((copyZ n x (oX (linP (ex k m v d))) (oY (linP (ex k m v d))) (e, f)).fst,
 (copyZ n x (oX (linP (ex k m v d))) (oY (linP (ex k m v d))) (e, f)).snd)).snd
 (↑j : Int)),
 D.i
 (itvHi n
 (metZ n x (evaP n.toNat n (e, f) (ex k m v d)).fst.fst (evaP n.toNat n (e, f) (ex k m v d)).fst.snd
 ((copyZ n x (oX (linP (ex k m v d))) (oY (linP (ex k m v d))) (e, f)).fst,
 (copyZ n x (oX (linP (ex k m v d))) (oY (linP (ex k m v d))) (e, f)).snd)).fst
 (metZ n x (evaP n.toNat n (e, f) (ex k m v d)).fst.fst (evaP n.toNat n (e, f) (ex k m v d)).fst.snd
 ((copyZ n x (oX (linP (ex k m v d))) (oY (linP (ex k m v d))) (e, f)).fst,
 (copyZ n x (oX (linP (ex k m v d))) (oY (linP (ex k m v d))) (e, f)).snd)).snd
 (↑j : Int))])
 (List.range (itD I.len n (copyZ n x (oX (linP (ex k m v d))) (oY (linP (ex k m v d))) (e, f))).len) =
 List.map
 (fun (j : Nat) =>
 [D.i (itvLo n (asgZ n x (ex k m v d) (e, f)).fst (asgZ n x (ex k m v d) (e, f)).snd (↑j : Int)),
 D.i (itvHi n (asgZ n x (ex k m v d) (e, f)).fst (asgZ n x (ex k m v d) (e, f)).snd (↑j : Int))])
 (List.range n.toNat) ∧
 n = n ∧
 (metZ n x (evaP n.toNat n (e, f) (ex k m v d)).fst.fst (evaP n.toNat n (e, f) (ex k m v d)).fst.snd
 ((copyZ n x (oX (linP (ex k m v d))) (oY (linP (ex k m v d))) (e, f)).fst,
 (copyZ n x (oX (linP (ex k m v d))) (oY (linP (ex k m v d))) (e, f)).snd)).fst =
 (asgZ n x (ex k m v d) (e, f)).fst ∧
 (∀ (o : Nat),
 o < nat_lit 49 →
 (metZ n x (evaP n.toNat n (e, f) (ex k m v d)).fst.fst (evaP n.toNat n (e, f) (ex k m v d)).fst.snd
 ((copyZ n x (oX (linP (ex k m v d))) (oY (linP (ex k m v d))) (e, f)).fst,
 (copyZ n x (oX (linP (ex k m v d))) (oY (linP (ex k m v d))) (e, f)).snd)).snd
 o =
 (asgZ n x (ex k m v d) (e, f)).snd o) ∧
 (evaP n.toNat n (e, f) (ex k m v d)).snd.fst = (evaP n.toNat n (e, f) (ex k m v d)).snd.fst ∧
 (evaP n.toNat n (e, f) (ex k m v d)).snd.snd = (evaP n.toNat n (e, f) (ex k m v d)).snd.snd) ∧
 (oB (linP (ex k m v d)) = false →
 Good n (e, f) ∧
 I.len ≤ (1000 : Nat) ∧
 (metZ n x (evaP n.toNat n (e, f) (ex k m v d)).fst.fst (evaP n.toNat n (e, f) (ex k m v d)).fst.snd (fgZ n x (e, f))).fst =
 (asgZ n x (ex k m v d) (e, f)).fst ∧
 List.map
 (fun (j : Nat) =>
 [D.i
 (itvLo n (metZ n x (evaP n.toNat n (e, f) (ex k m v d)).fst.fst (evaP n.toNat n (e, f) (ex k m v d)).fst.snd (fgZ n x (e, f))).fst
 (metZ n x (evaP n.toNat n (e, f) (ex k m v d)).fst.fst (evaP n.toNat n (e, f) (ex k m v d)).fst.snd (fgZ n x (e, f))).snd
 (↑j : Int)),
 D.i
 (itvHi n (metZ n x (evaP n.toNat n (e, f) (ex k m v d)).fst.fst (evaP n.toNat n (e, f) (ex k m v d)).fst.snd (fgZ n x (e, f))).fst
 (metZ n x (evaP n.toNat n (e, f) (ex k m v d)).fst.fst (evaP n.toNat n (e, f) (ex k m v d)).fst.snd (fgZ n x (e, f))).snd
 (↑j : Int))])
 (List.range I.len) =
 List.map
 (fun (j : Nat) =>
 [D.i (itvLo n (asgZ n x (ex k m v d) (e, f)).fst (asgZ n x (ex k m v d) (e, f)).snd (↑j : Int)),
 D.i (itvHi n (asgZ n x (ex k m v d) (e, f)).fst (asgZ n x (ex k m v d) (e, f)).snd (↑j : Int))])
 (List.range n.toNat) ∧
 n = n ∧
 (metZ n x (evaP n.toNat n (e, f) (ex k m v d)).fst.fst (evaP n.toNat n (e, f) (ex k m v d)).fst.snd (fgZ n x (e, f))).fst =
 (asgZ n x (ex k m v d) (e, f)).fst ∧
 (∀ (o : Nat),
 o < nat_lit 49 →
 (metZ n x (evaP n.toNat n (e, f) (ex k m v d)).fst.fst (evaP n.toNat n (e, f) (ex k m v d)).fst.snd (fgZ n x (e, f))).snd o =
 (asgZ n x (ex k m v d) (e, f)).snd o) ∧
 (evaP n.toNat n (e, f) (ex k m v d)).snd.fst = (evaP n.toNat n (e, f) (ex k m v d)).snd.fst ∧
 (evaP n.toNat n (e, f) (ex k m v d)).snd.snd = (evaP n.toNat n (e, f) (ex k m v d)).snd.snd))) (by kernel_rfl) ?_
    intro h
    have hz := h.good
    have hle := h.le
    have tn := h.top
    simp only [itD_len, h.len] at *
    unfold asgZ
    generalize evaP n.toNat n (e, f) (ex k m v d) = r
    generalize linP (ex k m v d) = l
    refine ⟨h, fun hc => ?_, fun hc => ⟨fun hb => ?_, fun hb => ?_⟩⟩
    · have hc : r.1.2 < r.1.1 := by simpa using hc
      have ea : asgR n x l r.1 (e, f) = (true, fun _ => 0) := if_pos hc
      rw [ea, tn]; exact ⟨rfl, rfl, rfl, rfl, fun _ _ => rfl, trivial, trivial⟩
    · have hc : ¬ r.1.2 < r.1.1 := by simpa using hc
      rcases l with _ | ⟨y, b⟩
      · cases hb
      · have ea : asgR n x (some (y, b)) r.1 (e, f) = metZ n x r.1.1 r.1.2 (copyZ n x y b (e, f)) := if_neg hc
        rw [ea]; exact ⟨hz, hle, good_copy hz _ _ _, hle, rfl, rfl, trivial, rfl, fun _ _ => rfl, trivial, trivial⟩
    · have hc : ¬ r.1.2 < r.1.1 := by simpa using hc
      rcases l with _ | ⟨y, b⟩
      · have ea : asgR n x none r.1 (e, f) = metZ n x r.1.1 r.1.2 (fgZ n x (e, f)) := if_neg hc
        rw [ea]; exact ⟨hz, hle, rfl, rfl, trivial, rfl, fun _ _ => rfl, trivial, trivial⟩
      · cases hb
  · trivial
noncomputable def eboundedS : FSpec := fun ds _ => match ds with
  | [.b c, .d I, .i n, .b e, .f f, .i op, .i x, .i y, .i b] => some { val := .one (.agg [.c (.bool (.sym (bdZ n op x y b (e, f) : Zs).1)), .c (.rows 53 (itD (I.len) (n) (bdZ n op x y b (e, f)))), .c (.int .i64 (.sym (n))), .c (.bool (.sym (bdZ n op x y b (e, f) : Zs).1)), .ints .i64 (.lit 49) (bdZ n op x y b (e, f) : Zs).2]), vc := [NumOK n c I e f, -2199023255552 ≤ b ∧ b ≤ 2199023255552] }
  | _ => none
noncomputable def eboundedC : Con := con [numA, iA, iA, iA, iA] eboundedS
theorem ebounded_ok : ConOK Tryz.prog 133 eboundedC := by
  refine fn_ob tt_ok mixed Tryz.func133 rfl (fun _ _ => by kernel_rfl) (A := fun ds => ⟨fun _ => Cons.of [(144, nboundC)], fun _ => none, fun _ => none⟩) (fun _ _ => (cons_cons nbound_ok cons_nil)) (by kernel_rfl) ?_
  intro ds fr
  unfold eboundedS
  split
  · rename_i c I n e f op x y b
    refine kmp (q := NumOK n c I e f →
 (-2199023255552 : Int) ≤ b ∧ b ≤ (2199023255552 : Int) →
 ((op == (1 : Int)) = true →
 Good n (e, f) ∧
 I.len ≤ (1000 : Nat) ∧
 Good n ((bndZ n x y b (e, f)).fst, (bndZ n x y b (e, f)).snd) ∧
 (itD I.len n (bndZ n x y b (e, f))).len ≤ (1000 : Nat) ∧
 (bndZ n y x (IntKind.i64.wrap ((0 : Int) - b)) ((bndZ n x y b (e, f)).fst, (bndZ n x y b (e, f)).snd)).fst = (bdZ n op x y b (e, f)).fst ∧
 List.map
 (fun (j : Nat) =>
 [D.i
 (itvLo n (bndZ n y x (IntKind.i64.wrap ((0 : Int) - b)) ((bndZ n x y b (e, f)).fst, (bndZ n x y b (e, f)).snd)).fst
 (bndZ n y x (IntKind.i64.wrap ((0 : Int) - b)) ((bndZ n x y b (e, f)).fst, (bndZ n x y b (e, f)).snd)).snd (↑j : Int)),
 D.i
 (itvHi n (bndZ n y x (IntKind.i64.wrap ((0 : Int) - b)) ((bndZ n x y b (e, f)).fst, (bndZ n x y b (e, f)).snd)).fst
 (bndZ n y x (IntKind.i64.wrap ((0 : Int) - b)) ((bndZ n x y b (e, f)).fst, (bndZ n x y b (e, f)).snd)).snd (↑j : Int))])
 (List.range (itD I.len n (bndZ n x y b (e, f))).len) =
 List.map
 (fun (j : Nat) =>
 [D.i (itvLo n (bdZ n op x y b (e, f)).fst (bdZ n op x y b (e, f)).snd (↑j : Int)),
 D.i (itvHi n (bdZ n op x y b (e, f)).fst (bdZ n op x y b (e, f)).snd (↑j : Int))])
 (List.range I.len) ∧
 n = n ∧
 (bndZ n y x (IntKind.i64.wrap ((0 : Int) - b)) ((bndZ n x y b (e, f)).fst, (bndZ n x y b (e, f)).snd)).fst = (bdZ n op x y b (e, f)).fst ∧
 ∀ (o : Nat),
 o < nat_lit 49 →
 (bndZ n y x (IntKind.i64.wrap ((0 : Int) - b)) ((bndZ n x y b (e, f)).fst, (bndZ n x y b (e, f)).snd)).snd o =
 (bdZ n op x y b (e, f)).snd o) ∧
 ((op == (1 : Int)) = false →
 ((op == (3 : Int)) = true →
 Good n (e, f) ∧
 I.len ≤ (1000 : Nat) ∧
 (bndZ n x y (IntKind.i64.wrap (b - (1 : Int))) (e, f)).fst = (bdZ n op x y b (e, f)).fst ∧
 List.map
 (fun (j : Nat) =>
 [D.i
 (itvLo n (bndZ n x y (IntKind.i64.wrap (b - (1 : Int))) (e, f)).fst (bndZ n x y (IntKind.i64.wrap (b - (1 : Int))) (e, f)).snd
 (↑j : Int)),
 D.i
 (itvHi n (bndZ n x y (IntKind.i64.wrap (b - (1 : Int))) (e, f)).fst (bndZ n x y (IntKind.i64.wrap (b - (1 : Int))) (e, f)).snd
 (↑j : Int))])
 (List.range I.len) =
 List.map
 (fun (j : Nat) =>
 [D.i (itvLo n (bdZ n op x y b (e, f)).fst (bdZ n op x y b (e, f)).snd (↑j : Int)),
 D.i (itvHi n (bdZ n op x y b (e, f)).fst (bdZ n op x y b (e, f)).snd (↑j : Int))])
 (List.range I.len) ∧
 n = n ∧
 (bndZ n x y (IntKind.i64.wrap (b - (1 : Int))) (e, f)).fst = (bdZ n op x y b (e, f)).fst ∧
 ∀ (o : Nat), o < nat_lit 49 → (bndZ n x y (IntKind.i64.wrap (b - (1 : Int))) (e, f)).snd o = (bdZ n op x y b (e, f)).snd o) ∧
 ((op == (3 : Int)) = false →
 ((op == (4 : Int)) = true →
 Good n (e, f) ∧
 I.len ≤ (1000 : Nat) ∧
 (bndZ n x y b (e, f)).fst = (bdZ n op x y b (e, f)).fst ∧
 List.map
 (fun (j : Nat) =>
 [D.i (itvLo n (bndZ n x y b (e, f)).fst (bndZ n x y b (e, f)).snd (↑j : Int)),
 D.i (itvHi n (bndZ n x y b (e, f)).fst (bndZ n x y b (e, f)).snd (↑j : Int))])
 (List.range I.len) =
 List.map
 (fun (j : Nat) =>
 [D.i (itvLo n (bdZ n op x y b (e, f)).fst (bdZ n op x y b (e, f)).snd (↑j : Int)),
 D.i (itvHi n (bdZ n op x y b (e, f)).fst (bdZ n op x y b (e, f)).snd (↑j : Int))])
 (List.range I.len) ∧
 n = n ∧
 (bndZ n x y b (e, f)).fst = (bdZ n op x y b (e, f)).fst ∧
 ∀ (o : Nat), o < nat_lit 49 → (bndZ n x y b (e, f)).snd o = (bdZ n op x y b (e, f)).snd o) ∧
 ((op == (4 : Int)) = false →
 ((op == (5 : Int)) = true →
 Good n (e, f) ∧
 I.len ≤ (1000 : Nat) ∧
 (bndZ n y x (IntKind.i64.wrap (IntKind.i64.wrap ((0 : Int) - b) - (1 : Int))) (e, f)).fst = (bdZ n op x y b (e, f)).fst ∧
 List.map
 (fun (j : Nat) =>
 [D.i
 (itvLo n (bndZ n y x (IntKind.i64.wrap (IntKind.i64.wrap ((0 : Int) - b) - (1 : Int))) (e, f)).fst
 (bndZ n y x (IntKind.i64.wrap (IntKind.i64.wrap ((0 : Int) - b) - (1 : Int))) (e, f)).snd (↑j : Int)),
 D.i
 (itvHi n (bndZ n y x (IntKind.i64.wrap (IntKind.i64.wrap ((0 : Int) - b) - (1 : Int))) (e, f)).fst
 (bndZ n y x (IntKind.i64.wrap (IntKind.i64.wrap ((0 : Int) - b) - (1 : Int))) (e, f)).snd (↑j : Int))])
 (List.range I.len) =
 List.map
 (fun (j : Nat) =>
 [D.i (itvLo n (bdZ n op x y b (e, f)).fst (bdZ n op x y b (e, f)).snd (↑j : Int)),
 D.i (itvHi n (bdZ n op x y b (e, f)).fst (bdZ n op x y b (e, f)).snd (↑j : Int))])
 (List.range I.len) ∧
 n = n ∧
 (bndZ n y x (IntKind.i64.wrap (IntKind.i64.wrap ((0 : Int) - b) - (1 : Int))) (e, f)).fst = (bdZ n op x y b (e, f)).fst ∧
 ∀ (o : Nat),
 o < nat_lit 49 →
 (bndZ n y x (IntKind.i64.wrap (IntKind.i64.wrap ((0 : Int) - b) - (1 : Int))) (e, f)).snd o =
 (bdZ n op x y b (e, f)).snd o) ∧
 ((op == (5 : Int)) = false →
 ((op == (6 : Int)) = true →
 Good n (e, f) ∧
 I.len ≤ (1000 : Nat) ∧
 (bndZ n y x (IntKind.i64.wrap ((0 : Int) - b)) (e, f)).fst = (bdZ n op x y b (e, f)).fst ∧
 List.map
 (fun (j : Nat) =>
 [D.i
 (itvLo n (bndZ n y x (IntKind.i64.wrap ((0 : Int) - b)) (e, f)).fst
 (bndZ n y x (IntKind.i64.wrap ((0 : Int) - b)) (e, f)).snd (↑j : Int)),
 D.i
 (itvHi n (bndZ n y x (IntKind.i64.wrap ((0 : Int) - b)) (e, f)).fst
 (bndZ n y x (IntKind.i64.wrap ((0 : Int) - b)) (e, f)).snd (↑j : Int))])
 (List.range I.len) =
 List.map
 (fun (j : Nat) =>
 [D.i (itvLo n (bdZ n op x y b (e, f)).fst (bdZ n op x y b (e, f)).snd (↑j : Int)),
 D.i (itvHi n (bdZ n op x y b (e, f)).fst (bdZ n op x y b (e, f)).snd (↑j : Int))])
 (List.range I.len) ∧
 n = n ∧
 (bndZ n y x (IntKind.i64.wrap ((0 : Int) - b)) (e, f)).fst = (bdZ n op x y b (e, f)).fst ∧
 ∀ (o : Nat),
 o < nat_lit 49 → (bndZ n y x (IntKind.i64.wrap ((0 : Int) - b)) (e, f)).snd o = (bdZ n op x y b (e, f)).snd o) ∧
 ((op == (6 : Int)) = false →
 c = (bdZ n op x y b (e, f)).fst ∧
 I.rows =
 List.map
 (fun (j : Nat) =>
 [D.i (itvLo n (bdZ n op x y b (e, f)).fst (bdZ n op x y b (e, f)).snd (↑j : Int)),
 D.i (itvHi n (bdZ n op x y b (e, f)).fst (bdZ n op x y b (e, f)).snd (↑j : Int))])
 (List.range I.len) ∧
 n = n ∧ e = (bdZ n op x y b (e, f)).fst ∧ ∀ (o : Nat), o < nat_lit 49 → f o = (bdZ n op x y b (e, f)).snd o)))))) (by kernel_rfl) ?_
    intro h hb
    have hz := h.good
    have hle := h.le
    have w1 : IntKind.i64.wrap (0 - b) = 0 - b := wr _ (by omega)
    have w2 : IntKind.i64.wrap (b - 1) = b - 1 := wr _ (by omega)
    have w3 : IntKind.i64.wrap (0 - b - 1) = 0 - b - 1 := wr _ (by omega)
    simp only [w1, w2, w3, itD_len]
    refine ⟨fun o => ?_, fun o1 => ⟨fun o => ?_, fun o2 => ⟨fun o => ?_, fun o3 => ⟨fun o => ?_, fun o4 => ⟨fun o => ?_, fun o5 => ?_⟩⟩⟩⟩⟩
    · have o : op = 1 := by simpa using o
      subst o; exact ⟨hz, hle, good_bnd hz _ _ _, hle, rfl, rfl, trivial, rfl, fun _ _ => rfl⟩
    · have o : op = 3 := by simpa using o
      subst o; exact ⟨hz, hle, rfl, rfl, trivial, rfl, fun _ _ => rfl⟩
    · have o : op = 4 := by simpa using o
      subst o; exact ⟨hz, hle, rfl, rfl, trivial, rfl, fun _ _ => rfl⟩
    · have o : op = 5 := by simpa using o
      subst o; exact ⟨hz, hle, rfl, rfl, trivial, rfl, fun _ _ => rfl⟩
    · have o : op = 6 := by simpa using o
      subst o; exact ⟨hz, hle, rfl, rfl, trivial, rfl, fun _ _ => rfl⟩
    · simp at o1 o2 o3 o4 o5
      have e1 : bdZ n op x y b (e, f) = (e, f) := by unfold bdZ; rw [if_neg o1, if_neg o2, if_neg o3, if_neg o4, if_neg o5]
      rw [e1]
      exact ⟨h.c, by rw [h.len]; exact h.rows, trivial, rfl, fun _ _ => rfl⟩
  · trivial
noncomputable def ebothNS : FSpec := fun ds _ => match ds with
  | [.i k, .i n, .i v, .d d, .i k2, .i n2, .i v2, .d d2, .d I] => some { val := .tup [.agg [.c (.int .i64 (.sym ((bothI (recP I (ex k n v d)) (recP I (ex k2 n2 v2 d2))).1.1))), .c (.int .i64 (.sym ((bothI (recP I (ex k n v d)) (recP I (ex k2 n2 v2 d2))).1.2)))], .agg [.c (.int .i64 (.sym ((bothI (recP I (ex k n v d)) (recP I (ex k2 n2 v2 d2))).2.1.1))), .c (.int .i64 (.sym ((bothI (recP I (ex k n v d)) (recP I (ex k2 n2 v2 d2))).2.1.2)))], .agg [.c (.bool (.sym (bothI (recP I (ex k n v d)) (recP I (ex k2 n2 v2 d2))).2.2.1)), .c (.bool (.sym (bothI (recP I (ex k n v d)) (recP I (ex k2 n2 v2 d2))).2.2.2))]], vc := [RgI I] }
  | _ => none
noncomputable def ebothNC : Con := con [xpA, xpA, .sc (.rows 53)] ebothNS
theorem ebothN_ok : ConOK Tryz.prog 110 ebothNC := by
  refine fn_ob tt_ok mixed Tryz.func110 rfl (fun _ _ => by kernel_rfl) (A := fun ds => ⟨fun _ => Cons.of [(106, reckC), (48, emptyC), (37, inoneC), (127, togC)], fun _ => none, fun _ => none⟩) (fun _ _ => (cons_cons reck_ok (cons_cons empty_ok (cons_cons inone_ok (cons_cons tog_ok cons_nil))))) (by kernel_rfl) ?_
  intro ds fr
  unfold ebothNS
  split
  · rename_i k n v d k2 n2 v2 d2 I
    refine kmp (q := RgI I →
 RgI I ∧
 (decide ((recP I (ex k n v d)).fst.snd < (recP I (ex k n v d)).fst.fst) = true →
 (1 : Int) = (bothI (recP I (ex k n v d)) (recP I (ex k2 n2 v2 d2))).fst.fst ∧
 (0 : Int) = (bothI (recP I (ex k n v d)) (recP I (ex k2 n2 v2 d2))).fst.snd ∧
 (1 : Int) = (bothI (recP I (ex k n v d)) (recP I (ex k2 n2 v2 d2))).snd.fst.fst ∧
 (0 : Int) = (bothI (recP I (ex k n v d)) (recP I (ex k2 n2 v2 d2))).snd.fst.snd ∧
 (recP I (ex k n v d)).snd.fst = (bothI (recP I (ex k n v d)) (recP I (ex k2 n2 v2 d2))).snd.snd.fst ∧
 (recP I (ex k n v d)).snd.snd = (bothI (recP I (ex k n v d)) (recP I (ex k2 n2 v2 d2))).snd.snd.snd) ∧
 (decide ((recP I (ex k n v d)).fst.snd < (recP I (ex k n v d)).fst.fst) = false →
 RgI I ∧
 (recP I (ex k n v d)).fst.fst = (bothI (recP I (ex k n v d)) (recP I (ex k2 n2 v2 d2))).fst.fst ∧
 (recP I (ex k n v d)).fst.snd = (bothI (recP I (ex k n v d)) (recP I (ex k2 n2 v2 d2))).fst.snd ∧
 (recP I (ex k2 n2 v2 d2)).fst.fst = (bothI (recP I (ex k n v d)) (recP I (ex k2 n2 v2 d2))).snd.fst.fst ∧
 (recP I (ex k2 n2 v2 d2)).fst.snd = (bothI (recP I (ex k n v d)) (recP I (ex k2 n2 v2 d2))).snd.fst.snd ∧
 (tg ((recP I (ex k n v d)).snd.fst, (recP I (ex k n v d)).snd.snd)
 ((recP I (ex k2 n2 v2 d2)).snd.fst, (recP I (ex k2 n2 v2 d2)).snd.snd)).fst =
 (bothI (recP I (ex k n v d)) (recP I (ex k2 n2 v2 d2))).snd.snd.fst ∧
 (tg ((recP I (ex k n v d)).snd.fst, (recP I (ex k n v d)).snd.snd)
 ((recP I (ex k2 n2 v2 d2)).snd.fst, (recP I (ex k2 n2 v2 d2)).snd.snd)).snd =
 (bothI (recP I (ex k n v d)) (recP I (ex k2 n2 v2 d2))).snd.snd.snd)) (by kernel_rfl) ?_
    intro hI
    unfold bothI
    generalize recP I (ex k n v d) = l
    generalize recP I (ex k2 n2 v2 d2) = r
    refine ⟨hI, fun h => ?_, fun h => ⟨hI, ?_⟩⟩
    · have h : l.1.2 < l.1.1 := by simpa using h
      rw [if_pos h]; exact ⟨rfl, rfl, rfl, rfl, rfl, rfl⟩
    · have h : ¬ l.1.2 < l.1.1 := by simpa using h
      rw [if_neg h]; exact ⟨rfl, rfl, rfl, rfl, rfl, rfl⟩
  · trivial
noncomputable def heldS : FSpec := fun ds _ => match ds with
  | [.b c, .d I, .i n, .b e, .f f, .i op, .i k, .i m, .i v, .d d, .i k2, .i m2, .i v2, .d d2, .i s1, .i s2, .i t1, .i t2] => some { val := .one (.agg [.c (.bool (.sym (hldZ n op (ex k m v d) (ex k2 m2 v2 d2) (s1, s2) (t1, t2) (e, f) : Zs).1)), .c (.rows 53 (itD (I.len) (n) (hldZ n op (ex k m v d) (ex k2 m2 v2 d2) (s1, s2) (t1, t2) (e, f)))), .c (.int .i64 (.sym (n))), .c (.bool (.sym (hldZ n op (ex k m v d) (ex k2 m2 v2 d2) (s1, s2) (t1, t2) (e, f) : Zs).1)), .ints .i64 (.lit 49) (hldZ n op (ex k m v d) (ex k2 m2 v2 d2) (s1, s2) (t1, t2) (e, f) : Zs).2]), vc := [NumOK n c I e f, 0 < n, Rz (s1, s2), Rz (t1, t2)] }
  | _ => none
noncomputable def heldC : Con := con [numA, .agg [.c (.int .i64), .c (.int .i64), .c (.int .i64), .c (.int .i64), .c (.rows 25), .c (.int .i64), .c (.int .i64), .c (.int .i64), .c (.rows 25)], itvA, itvA] heldS
theorem held_ok : ConOK Tryz.prog 112 heldC := by
  refine fn_ob tt_ok mixed Tryz.func112 rfl (fun _ _ => by kernel_rfl) (A := fun ds => ⟨fun _ => Cons.of [(77, linC), (58, icloneC), (78, nmeetC), (132, elessC), (133, eboundedC)], fun _ => none, fun _ => none⟩) (fun _ _ => (cons_cons lin_ok (cons_cons iclone_ok (cons_cons nmeet_ok (cons_cons eless_ok (cons_cons ebounded_ok cons_nil)))))) (by kernel_rfl) ?_
  intro ds fr
  unfold heldS
  split
  · rename_i c I n e f op k m v d k2 m2 v2 d2 s1 s2 t1 t2
    refine kmp (q := NumOK n c I e f →
 (0 : Int) < n →
 Rz (s1, s2) →
 Rz (t1, t2) →
 ((0 : Nat) < I.len ∧ I.len ≤ (1000 : Nat)) ∧
 (oB (linP (ex k m v d)) = true →
 Rz (s1, s2) ∧
 ((-1099511627776 : Int) ≤ oY (linP (ex k m v d)) ∧ oY (linP (ex k m v d)) ≤ (1099511627776 : Int)) ∧
 Good n (e, f) ∧
 I.len ≤ (1000 : Nat) ∧
 (oB (linP (ex k2 m2 v2 d2)) = true →
 Rz (t1, t2) ∧
 ((-1099511627776 : Int) ≤ oY (linP (ex k2 m2 v2 d2)) ∧ oY (linP (ex k2 m2 v2 d2)) ≤ (1099511627776 : Int)) ∧
 Good n
 ((metZ n (oX (linP (ex k m v d))) (s1 - oY (linP (ex k m v d))) (s2 - oY (linP (ex k m v d))) (e, f)).fst,
 (metZ n (oX (linP (ex k m v d))) (s1 - oY (linP (ex k m v d))) (s2 - oY (linP (ex k m v d))) (e, f)).snd) ∧
 (itD I.len n (metZ n (oX (linP (ex k m v d))) (s1 - oY (linP (ex k m v d))) (s2 - oY (linP (ex k m v d))) (e, f))).len ≤
 (1000 : Nat) ∧
 ((oB (linP (ex k m v d)) && oB (linP (ex k2 m2 v2 d2)) && oX (linP (ex k m v d)) != oX (linP (ex k2 m2 v2 d2))) = true →
 NumOK n
 (metZ n (oX (linP (ex k2 m2 v2 d2))) (t1 - oY (linP (ex k2 m2 v2 d2))) (t2 - oY (linP (ex k2 m2 v2 d2)))
 ((metZ n (oX (linP (ex k m v d))) (s1 - oY (linP (ex k m v d))) (s2 - oY (linP (ex k m v d))) (e, f)).fst,
 (metZ n (oX (linP (ex k m v d))) (s1 - oY (linP (ex k m v d))) (s2 - oY (linP (ex k m v d))) (e, f)).snd)).fst
 (itD
 (itD I.len n
 (metZ n (oX (linP (ex k m v d))) (s1 - oY (linP (ex k m v d))) (s2 - oY (linP (ex k m v d))) (e, f))).len
 n
 (metZ n (oX (linP (ex k2 m2 v2 d2))) (t1 - oY (linP (ex k2 m2 v2 d2))) (t2 - oY (linP (ex k2 m2 v2 d2)))
 ((metZ n (oX (linP (ex k m v d))) (s1 - oY (linP (ex k m v d))) (s2 - oY (linP (ex k m v d))) (e, f)).fst,
 (metZ n (oX (linP (ex k m v d))) (s1 - oY (linP (ex k m v d))) (s2 - oY (linP (ex k m v d))) (e, f)).snd)))
 (metZ n (oX (linP (ex k2 m2 v2 d2))) (t1 - oY (linP (ex k2 m2 v2 d2))) (t2 - oY (linP (ex k2 m2 v2 d2)))
 ((metZ n (oX (linP (ex k m v d))) (s1 - oY (linP (ex k m v d))) (s2 - oY (linP (ex k m v d))) (e, f)).fst,
 (metZ n (oX (linP (ex k m v d))) (s1 - oY (linP (ex k m v d))) (s2 - oY (linP (ex k m v d))) (e, f)).snd)).fst
 (metZ n (oX (linP (ex k2 m2 v2 d2))) (t1 - oY (linP (ex k2 m2 v2 d2))) (t2 - oY (linP (ex k2 m2 v2 d2)))
 ((metZ n (oX (linP (ex k m v d))) (s1 - oY (linP (ex k m v d))) (s2 - oY (linP (ex k m v d))) (e, f)).fst,
 (metZ n (oX (linP (ex k m v d))) (s1 - oY (linP (ex k m v d))) (s2 - oY (linP (ex k m v d))) (e, f)).snd)).snd ∧
 ((-2199023255552 : Int) ≤ IntKind.i64.wrap (oY (linP (ex k2 m2 v2 d2)) - oY (linP (ex k m v d))) ∧
 IntKind.i64.wrap (oY (linP (ex k2 m2 v2 d2)) - oY (linP (ex k m v d))) ≤ (2199023255552 : Int)) ∧
 (bdZ n op (oX (linP (ex k m v d))) (oX (linP (ex k2 m2 v2 d2)))
 (IntKind.i64.wrap (oY (linP (ex k2 m2 v2 d2)) - oY (linP (ex k m v d))))
 ((metZ n (oX (linP (ex k2 m2 v2 d2))) (t1 - oY (linP (ex k2 m2 v2 d2))) (t2 - oY (linP (ex k2 m2 v2 d2)))
 ((metZ n (oX (linP (ex k m v d))) (s1 - oY (linP (ex k m v d))) (s2 - oY (linP (ex k m v d)))
 (e, f)).fst,
 (metZ n (oX (linP (ex k m v d))) (s1 - oY (linP (ex k m v d))) (s2 - oY (linP (ex k m v d)))
 (e, f)).snd)).fst,
 (metZ n (oX (linP (ex k2 m2 v2 d2))) (t1 - oY (linP (ex k2 m2 v2 d2))) (t2 - oY (linP (ex k2 m2 v2 d2)))
 ((metZ n (oX (linP (ex k m v d))) (s1 - oY (linP (ex k m v d))) (s2 - oY (linP (ex k m v d)))
 (e, f)).fst,
 (metZ n (oX (linP (ex k m v d))) (s1 - oY (linP (ex k m v d))) (s2 - oY (linP (ex k m v d)))
 (e, f)).snd)).snd)).fst =
 (hldZ n op (ex k m v d) (ex k2 m2 v2 d2) (s1, s2) (t1, t2) (e, f)).fst ∧
 List.map
 (fun (j : Nat) =>
 [D.i
 (itvLo n
 (bdZ n op (oX (linP (ex k m v d))) (oX (linP (ex k2 m2 v2 d2)))
 (IntKind.i64.wrap (oY (linP (ex k2 m2 v2 d2)) - oY (linP (ex k m v d))))
 ((metZ n (oX (linP (ex k2 m2 v2 d2))) (t1 - oY (linP (ex k2 m2 v2 d2)))
 (t2 - oY (linP (ex k2 m2 v2 d2)))
 ((metZ n (oX (linP (ex k m v d))) (s1 - oY (linP (ex k m v d)))
 (s2 - oY (linP (ex k m v d))) (e, f)).fst,
 (metZ n (oX (linP (ex k m v d))) (s1 - oY (linP (ex k m v d)))
 (s2 - oY (linP (ex k m v d))) (e, f)).snd)).fst,
 (metZ n (oX (linP (ex k2 m2 v2 d2))) (t1 - oY (linP (ex k2 m2 v2 d2)))
 (t2 - oY (linP (ex k2 m2 v2 d2)))
 ((metZ n (oX (linP (ex k m v d))) (s1 - oY (linP (ex k m v d)))
 (s2 - oY (linP (ex k m v d))) (e, f)).fst,
 (metZ n (oX (linP (ex k m v d))) (s1 - oY (linP (ex k m v d)))
 (s2 - oY (linP (ex k m v d))) (e, f)).snd)).snd)).fst
 (bdZ n op (oX (linP (ex k m v d))) (oX (linP (ex k2 m2 v2 d2)))
 (IntKind.i64.wrap (oY (linP (ex k2 m2 v2 d2)) - oY (linP (ex k m v d))))
 ((metZ n (oX (linP (ex k2 m2 v2 d2))) (t1 - oY (linP (ex k2 m2 v2 d2)))
 (t2 - oY (linP (ex k2 m2 v2 d2)))
 ((metZ n (oX (linP (ex k m v d))) (s1 - oY (linP (ex k m v d)))
 (s2 - oY (linP (ex k m v d))) (e, f)).fst,
 (metZ n (oX (linP (ex k m v d))) (s1 - oY (linP (ex k m v d)))
 (s2 - oY (linP (ex k m v d))) (e, f)).snd)).fst,
 (metZ n (oX (linP (ex k2 m2 v2 d2))) (t1 - oY (linP (ex k2 m2 v2 d2)))
 (t2 - oY (linP (ex k2 m2 v2 d2)))
 ((metZ n (oX (linP (ex k m v d))) (s1 - oY (linP (ex k m v d)))
 (s2 - oY (linP (ex k m v d))) (e, f)).fst,
 (metZ n (oX (linP (ex k m v d))) (s1 - oY (linP (ex k m v d)))
 (s2 - oY (linP (ex k m v d))) (e, f)).snd)).snd)).snd
 (↑j : Int)),
 D.i
 (itvHi n
 (bdZ n op (oX (linP (ex k m v d))) (oX (linP (ex k2 m2 v2 d2)))
 (IntKind.i64.wrap (oY (linP (ex k2 m2 v2 d2)) - oY (linP (ex k m v d))))
 ((metZ n (oX (linP (ex k2 m2 v2 d2))) (t1 - oY (linP (ex k2 m2 v2 d2)))
 (t2 - oY (linP (ex k2 m2 v2 d2)))
 ((metZ n (oX (linP (ex k m v d))) (s1 - oY (linP (ex k m v d)))
 (s2 - oY (linP (ex k m v d))) (e, f)).fst,
 (metZ n (oX (linP (ex k m v d))) (s1 - oY (linP (ex k m v d)))
 (s2 - oY (linP (ex k m v d))) (e, f)).snd)).fst,
 (metZ n (oX (linP (ex k2 m2 v2 d2))) (t1 - oY (linP (ex k2 m2 v2 d2)))
 (t2 - oY (linP (ex k2 m2 v2 d2)))
 ((metZ n (oX (linP (ex k m v d))) (s1 - oY (linP (ex k m v d)))
 (s2 - oY (linP (ex k m v d))) (e, f)).fst,
 (metZ n (oX (linP (ex k m v d))) (s1 - oY (linP (ex k m v d)))
 (s2 - oY (linP (ex k m v d))) (e, f)).snd)).snd)).fst
 (bdZ n op (oX (linP (ex k m v d))) (oX (linP (ex k2 m2 v2 d2)))
 (IntKind.i64.wrap (oY (linP (ex k2 m2 v2 d2)) - oY (linP (ex k m v d))))
 ((metZ n (oX (linP (ex k2 m2 v2 d2))) (t1 - oY (linP (ex k2 m2 v2 d2)))
 (t2 - oY (linP (ex k2 m2 v2 d2)))
 ((metZ n (oX (linP (ex k m v d))) (s1 - oY (linP (ex k m v d)))
 (s2 - oY (linP (ex k m v d))) (e, f)).fst,
 (metZ n (oX (linP (ex k m v d))) (s1 - oY (linP (ex k m v d)))
 (s2 - oY (linP (ex k m v d))) (e, f)).snd)).fst,
 (metZ n (oX (linP (ex k2 m2 v2 d2))) (t1 - oY (linP (ex k2 m2 v2 d2)))
 (t2 - oY (linP (ex k2 m2 v2 d2)))
 ((metZ n (oX (linP (ex k m v d))) (s1 - oY (linP (ex k m v d)))
 (s2 - oY (linP (ex k m v d))) (e, f)).fst,
 (metZ n (oX (linP (ex k m v d))) (s1 - oY (linP (ex k m v d)))
 (s2 - oY (linP (ex k m v d))) (e, f)).snd)).snd)).snd
 (↑j : Int))])
 (List.range
 (itD
 (itD I.len n
 (metZ n (oX (linP (ex k m v d))) (s1 - oY (linP (ex k m v d))) (s2 - oY (linP (ex k m v d)))
 (e, f))).len
 n
 (metZ n (oX (linP (ex k2 m2 v2 d2))) (t1 - oY (linP (ex k2 m2 v2 d2))) (t2 - oY (linP (ex k2 m2 v2 d2)))
 ((metZ n (oX (linP (ex k m v d))) (s1 - oY (linP (ex k m v d))) (s2 - oY (linP (ex k m v d)))
 (e, f)).fst,
 (metZ n (oX (linP (ex k m v d))) (s1 - oY (linP (ex k m v d))) (s2 - oY (linP (ex k m v d)))
 (e, f)).snd))).len) =
 List.map
 (fun (j : Nat) =>
 [D.i
 (itvLo n (hldZ n op (ex k m v d) (ex k2 m2 v2 d2) (s1, s2) (t1, t2) (e, f)).fst
 (hldZ n op (ex k m v d) (ex k2 m2 v2 d2) (s1, s2) (t1, t2) (e, f)).snd (↑j : Int)),
 D.i
 (itvHi n (hldZ n op (ex k m v d) (ex k2 m2 v2 d2) (s1, s2) (t1, t2) (e, f)).fst
 (hldZ n op (ex k m v d) (ex k2 m2 v2 d2) (s1, s2) (t1, t2) (e, f)).snd (↑j : Int))])
 (List.range I.len) ∧
 n = n ∧
 (bdZ n op (oX (linP (ex k m v d))) (oX (linP (ex k2 m2 v2 d2)))
 (IntKind.i64.wrap (oY (linP (ex k2 m2 v2 d2)) - oY (linP (ex k m v d))))
 ((metZ n (oX (linP (ex k2 m2 v2 d2))) (t1 - oY (linP (ex k2 m2 v2 d2)))
 (t2 - oY (linP (ex k2 m2 v2 d2)))
 ((metZ n (oX (linP (ex k m v d))) (s1 - oY (linP (ex k m v d))) (s2 - oY (linP (ex k m v d)))
 (e, f)).fst,
 (metZ n (oX (linP (ex k m v d))) (s1 - oY (linP (ex k m v d))) (s2 - oY (linP (ex k m v d)))
 (e, f)).snd)).fst,
 (metZ n (oX (linP (ex k2 m2 v2 d2))) (t1 - oY (linP (ex k2 m2 v2 d2)))
 (t2 - oY (linP (ex k2 m2 v2 d2)))
 ((metZ n (oX (linP (ex k m v d))) (s1 - oY (linP (ex k m v d))) (s2 - oY (linP (ex k m v d)))
 (e, f)).fst,
 (metZ n (oX (linP (ex k m v d))) (s1 - oY (linP (ex k m v d))) (s2 - oY (linP (ex k m v d)))
 (e, f)).snd)).snd)).fst =
 (hldZ n op (ex k m v d) (ex k2 m2 v2 d2) (s1, s2) (t1, t2) (e, f)).fst ∧
 ∀ (o : Nat),
 o < nat_lit 49 →
 (bdZ n op (oX (linP (ex k m v d))) (oX (linP (ex k2 m2 v2 d2)))
 (IntKind.i64.wrap (oY (linP (ex k2 m2 v2 d2)) - oY (linP (ex k m v d))))
 ((metZ n (oX (linP (ex k2 m2 v2 d2))) (t1 - oY (linP (ex k2 m2 v2 d2)))
 (t2 - oY (linP (ex k2 m2 v2 d2)))
 ((metZ n (oX (linP (ex k m v d))) (s1 - oY (linP (ex k m v d)))
 (s2 - oY (linP (ex k m v d))) (e, f)).fst,
 (metZ n (oX (linP (ex k m v d))) (s1 - oY (linP (ex k m v d)))
 (s2 - oY (linP (ex k m v d))) (e, f)).snd)).fst,
 (metZ n (oX (linP (ex k2 m2 v2 d2))) (t1 - oY (linP (ex k2 m2 v2 d2)))
 (t2 - oY (linP (ex k2 m2 v2 d2)))
 ((metZ n (oX (linP (ex k m v d))) (s1 - oY (linP (ex k m v d)))
 (s2 - oY (linP (ex k m v d))) (e, f)).fst,
 (metZ n (oX (linP (ex k m v d))) (s1 - oY (linP (ex k m v d)))
 (s2 - oY (linP (ex k m v d))) (e, f)).snd)).snd)).snd
 o =
 (hldZ n op (ex k m v d) (ex k2 m2 v2 d2) (s1, s2) (t1, t2) (e, f)).snd o) ∧
 ((oB (linP (ex k m v d)) && oB (linP (ex k2 m2 v2 d2)) && oX (linP (ex k m v d)) != oX (linP (ex k2 m2 v2 d2))) = false →
 (metZ n (oX (linP (ex k2 m2 v2 d2))) (t1 - oY (linP (ex k2 m2 v2 d2))) (t2 - oY (linP (ex k2 m2 v2 d2)))
 ((metZ n (oX (linP (ex k m v d))) (s1 - oY (linP (ex k m v d))) (s2 - oY (linP (ex k m v d))) (e, f)).fst,
 (metZ n (oX (linP (ex k m v d))) (s1 - oY (linP (ex k m v d))) (s2 - oY (linP (ex k m v d))) (e, f)).snd)).fst =
 (hldZ n op (ex k m v d) (ex k2 m2 v2 d2) (s1, s2) (t1, t2) (e, f)).fst ∧
 List.map
 (fun (j : Nat) =>
 [D.i
 (itvLo n
 (metZ n (oX (linP (ex k2 m2 v2 d2))) (t1 - oY (linP (ex k2 m2 v2 d2))) (t2 - oY (linP (ex k2 m2 v2 d2)))
 ((metZ n (oX (linP (ex k m v d))) (s1 - oY (linP (ex k m v d))) (s2 - oY (linP (ex k m v d)))
 (e, f)).fst,
 (metZ n (oX (linP (ex k m v d))) (s1 - oY (linP (ex k m v d))) (s2 - oY (linP (ex k m v d)))
 (e, f)).snd)).fst
 (metZ n (oX (linP (ex k2 m2 v2 d2))) (t1 - oY (linP (ex k2 m2 v2 d2))) (t2 - oY (linP (ex k2 m2 v2 d2)))
 ((metZ n (oX (linP (ex k m v d))) (s1 - oY (linP (ex k m v d))) (s2 - oY (linP (ex k m v d)))
 (e, f)).fst,
 (metZ n (oX (linP (ex k m v d))) (s1 - oY (linP (ex k m v d))) (s2 - oY (linP (ex k m v d)))
 (e, f)).snd)).snd
 (↑j : Int)),
 D.i
 (itvHi n
 (metZ n (oX (linP (ex k2 m2 v2 d2))) (t1 - oY (linP (ex k2 m2 v2 d2))) (t2 - oY (linP (ex k2 m2 v2 d2)))
 ((metZ n (oX (linP (ex k m v d))) (s1 - oY (linP (ex k m v d))) (s2 - oY (linP (ex k m v d)))
 (e, f)).fst,
 (metZ n (oX (linP (ex k m v d))) (s1 - oY (linP (ex k m v d))) (s2 - oY (linP (ex k m v d)))
 (e, f)).snd)).fst
 (metZ n (oX (linP (ex k2 m2 v2 d2))) (t1 - oY (linP (ex k2 m2 v2 d2))) (t2 - oY (linP (ex k2 m2 v2 d2)))
 ((metZ n (oX (linP (ex k m v d))) (s1 - oY (linP (ex k m v d))) (s2 - oY (linP (ex k m v d)))
 (e, f)).fst,
 (metZ n (oX (linP (ex k m v d))) (s1 - oY (linP (ex k m v d))) (s2 - oY (linP (ex k m v d)))
 (e, f)).snd)).snd
 (↑j : Int))])
 (List.range
 (itD I.len n
 (metZ n (oX (linP (ex k m v d))) (s1 - oY (linP (ex k m v d))) (s2 - oY (linP (ex k m v d))) (e, f))).len) =
 List.map
 (fun (j : Nat) =>
 [D.i
 (itvLo n (hldZ n op (ex k m v d) (ex k2 m2 v2 d2) (s1, s2) (t1, t2) (e, f)).fst
 (hldZ n op (ex k m v d) (ex k2 m2 v2 d2) (s1, s2) (t1, t2) (e, f)).snd (↑j : Int)),
 D.i
 (itvHi n (hldZ n op (ex k m v d) (ex k2 m2 v2 d2) (s1, s2) (t1, t2) (e, f)).fst
 (hldZ n op (ex k m v d) (ex k2 m2 v2 d2) (s1, s2) (t1, t2) (e, f)).snd (↑j : Int))])
 (List.range I.len) ∧
 n = n ∧
 (metZ n (oX (linP (ex k2 m2 v2 d2))) (t1 - oY (linP (ex k2 m2 v2 d2))) (t2 - oY (linP (ex k2 m2 v2 d2)))
 ((metZ n (oX (linP (ex k m v d))) (s1 - oY (linP (ex k m v d))) (s2 - oY (linP (ex k m v d))) (e, f)).fst,
 (metZ n (oX (linP (ex k m v d))) (s1 - oY (linP (ex k m v d))) (s2 - oY (linP (ex k m v d)))
 (e, f)).snd)).fst =
 (hldZ n op (ex k m v d) (ex k2 m2 v2 d2) (s1, s2) (t1, t2) (e, f)).fst ∧
 ∀ (o : Nat),
 o < nat_lit 49 →
 (metZ n (oX (linP (ex k2 m2 v2 d2))) (t1 - oY (linP (ex k2 m2 v2 d2))) (t2 - oY (linP (ex k2 m2 v2 d2)))
 ((metZ n (oX (linP (ex k m v d))) (s1 - oY (linP (ex k m v d))) (s2 - oY (linP (ex k m v d)))
 (e, f)).fst,
 (metZ n (oX (linP (ex k m v d))) (s1 - oY (linP (ex k m v d))) (s2 - oY (linP (ex k m v d)))
 (e, f)).snd)).snd
 o =
 (hldZ n op (ex k m v d) (ex k2 m2 v2 d2) (s1, s2) (t1, t2) (e, f)).snd o)) ∧
 (oB (linP (ex k2 m2 v2 d2)) = false →
 ((oB (linP (ex k m v d)) && oB (linP (ex k2 m2 v2 d2)) && oX (linP (ex k m v d)) != oX (linP (ex k2 m2 v2 d2))) = true →
 NumOK n (metZ n (oX (linP (ex k m v d))) (s1 - oY (linP (ex k m v d))) (s2 - oY (linP (ex k m v d))) (e, f)).fst
 (itD I.len n (metZ n (oX (linP (ex k m v d))) (s1 - oY (linP (ex k m v d))) (s2 - oY (linP (ex k m v d))) (e, f)))
 (metZ n (oX (linP (ex k m v d))) (s1 - oY (linP (ex k m v d))) (s2 - oY (linP (ex k m v d))) (e, f)).fst
 (metZ n (oX (linP (ex k m v d))) (s1 - oY (linP (ex k m v d))) (s2 - oY (linP (ex k m v d))) (e, f)).snd ∧
 ((-2199023255552 : Int) ≤ IntKind.i64.wrap (oY (linP (ex k2 m2 v2 d2)) - oY (linP (ex k m v d))) ∧
 IntKind.i64.wrap (oY (linP (ex k2 m2 v2 d2)) - oY (linP (ex k m v d))) ≤ (2199023255552 : Int)) ∧
 (bdZ n op (oX (linP (ex k m v d))) (oX (linP (ex k2 m2 v2 d2)))
 (IntKind.i64.wrap (oY (linP (ex k2 m2 v2 d2)) - oY (linP (ex k m v d))))
 ((metZ n (oX (linP (ex k m v d))) (s1 - oY (linP (ex k m v d))) (s2 - oY (linP (ex k m v d))) (e, f)).fst,
 (metZ n (oX (linP (ex k m v d))) (s1 - oY (linP (ex k m v d))) (s2 - oY (linP (ex k m v d))) (e, f)).snd)).fst =
 (hldZ n op (ex k m v d) (ex k2 m2 v2 d2) (s1, s2) (t1, t2) (e, f)).fst ∧
 List.map
 (fun (j : Nat) =>
 [D.i
 (itvLo n
 (bdZ n op (oX (linP (ex k m v d))) (oX (linP (ex k2 m2 v2 d2)))
 (IntKind.i64.wrap (oY (linP (ex k2 m2 v2 d2)) - oY (linP (ex k m v d))))
 ((metZ n (oX (linP (ex k m v d))) (s1 - oY (linP (ex k m v d))) (s2 - oY (linP (ex k m v d))) (e, f)).fst,
 (metZ n (oX (linP (ex k m v d))) (s1 - oY (linP (ex k m v d))) (s2 - oY (linP (ex k m v d)))
 (e, f)).snd)).fst
 (bdZ n op (oX (linP (ex k m v d))) (oX (linP (ex k2 m2 v2 d2)))
 (IntKind.i64.wrap (oY (linP (ex k2 m2 v2 d2)) - oY (linP (ex k m v d))))
 ((metZ n (oX (linP (ex k m v d))) (s1 - oY (linP (ex k m v d))) (s2 - oY (linP (ex k m v d))) (e, f)).fst,
 (metZ n (oX (linP (ex k m v d))) (s1 - oY (linP (ex k m v d))) (s2 - oY (linP (ex k m v d)))
 (e, f)).snd)).snd
 (↑j : Int)),
 D.i
 (itvHi n
 (bdZ n op (oX (linP (ex k m v d))) (oX (linP (ex k2 m2 v2 d2)))
 (IntKind.i64.wrap (oY (linP (ex k2 m2 v2 d2)) - oY (linP (ex k m v d))))
 ((metZ n (oX (linP (ex k m v d))) (s1 - oY (linP (ex k m v d))) (s2 - oY (linP (ex k m v d))) (e, f)).fst,
 (metZ n (oX (linP (ex k m v d))) (s1 - oY (linP (ex k m v d))) (s2 - oY (linP (ex k m v d)))
 (e, f)).snd)).fst
 (bdZ n op (oX (linP (ex k m v d))) (oX (linP (ex k2 m2 v2 d2)))
 (IntKind.i64.wrap (oY (linP (ex k2 m2 v2 d2)) - oY (linP (ex k m v d))))
 ((metZ n (oX (linP (ex k m v d))) (s1 - oY (linP (ex k m v d))) (s2 - oY (linP (ex k m v d))) (e, f)).fst,
 (metZ n (oX (linP (ex k m v d))) (s1 - oY (linP (ex k m v d))) (s2 - oY (linP (ex k m v d)))
 (e, f)).snd)).snd
 (↑j : Int))])
 (List.range
 (itD I.len n
 (metZ n (oX (linP (ex k m v d))) (s1 - oY (linP (ex k m v d))) (s2 - oY (linP (ex k m v d))) (e, f))).len) =
 List.map
 (fun (j : Nat) =>
 [D.i
 (itvLo n (hldZ n op (ex k m v d) (ex k2 m2 v2 d2) (s1, s2) (t1, t2) (e, f)).fst
 (hldZ n op (ex k m v d) (ex k2 m2 v2 d2) (s1, s2) (t1, t2) (e, f)).snd (↑j : Int)),
 D.i
 (itvHi n (hldZ n op (ex k m v d) (ex k2 m2 v2 d2) (s1, s2) (t1, t2) (e, f)).fst
 (hldZ n op (ex k m v d) (ex k2 m2 v2 d2) (s1, s2) (t1, t2) (e, f)).snd (↑j : Int))])
 (List.range I.len) ∧
 n = n ∧
 (bdZ n op (oX (linP (ex k m v d))) (oX (linP (ex k2 m2 v2 d2)))
 (IntKind.i64.wrap (oY (linP (ex k2 m2 v2 d2)) - oY (linP (ex k m v d))))
 ((metZ n (oX (linP (ex k m v d))) (s1 - oY (linP (ex k m v d))) (s2 - oY (linP (ex k m v d))) (e, f)).fst,
 (metZ n (oX (linP (ex k m v d))) (s1 - oY (linP (ex k m v d))) (s2 - oY (linP (ex k m v d)))
 (e, f)).snd)).fst =
 (hldZ n op (ex k m v d) (ex k2 m2 v2 d2) (s1, s2) (t1, t2) (e, f)).fst ∧
 ∀ (o : Nat),
 o < nat_lit 49 →
 (bdZ n op (oX (linP (ex k m v d))) (oX (linP (ex k2 m2 v2 d2)))
 (IntKind.i64.wrap (oY (linP (ex k2 m2 v2 d2)) - oY (linP (ex k m v d))))
 ((metZ n (oX (linP (ex k m v d))) (s1 - oY (linP (ex k m v d))) (s2 - oY (linP (ex k m v d))) (e, f)).fst,
 (metZ n (oX (linP (ex k m v d))) (s1 - oY (linP (ex k m v d))) (s2 - oY (linP (ex k m v d)))
 (e, f)).snd)).snd
 o =
 (hldZ n op (ex k m v d) (ex k2 m2 v2 d2) (s1, s2) (t1, t2) (e, f)).snd o) ∧
 ((oB (linP (ex k m v d)) && oB (linP (ex k2 m2 v2 d2)) && oX (linP (ex k m v d)) != oX (linP (ex k2 m2 v2 d2))) = false →
 (metZ n (oX (linP (ex k m v d))) (s1 - oY (linP (ex k m v d))) (s2 - oY (linP (ex k m v d))) (e, f)).fst =
 (hldZ n op (ex k m v d) (ex k2 m2 v2 d2) (s1, s2) (t1, t2) (e, f)).fst ∧
 List.map
 (fun (j : Nat) =>
 [D.i
 (itvLo n (metZ n (oX (linP (ex k m v d))) (s1 - oY (linP (ex k m v d))) (s2 - oY (linP (ex k m v d))) (e, f)).fst
 (metZ n (oX (linP (ex k m v d))) (s1 - oY (linP (ex k m v d))) (s2 - oY (linP (ex k m v d))) (e, f)).snd
 (↑j : Int)),
 D.i
 (itvHi n (metZ n (oX (linP (ex k m v d))) (s1 - oY (linP (ex k m v d))) (s2 - oY (linP (ex k m v d))) (e, f)).fst
 (metZ n (oX (linP (ex k m v d))) (s1 - oY (linP (ex k m v d))) (s2 - oY (linP (ex k m v d))) (e, f)).snd
 (↑j : Int))])
 (List.range I.len) =
 List.map
 (fun (j : Nat) =>
 [D.i
 (itvLo n (hldZ n op (ex k m v d) (ex k2 m2 v2 d2) (s1, s2) (t1, t2) (e, f)).fst
 (hldZ n op (ex k m v d) (ex k2 m2 v2 d2) (s1, s2) (t1, t2) (e, f)).snd (↑j : Int)),
 D.i
 (itvHi n (hldZ n op (ex k m v d) (ex k2 m2 v2 d2) (s1, s2) (t1, t2) (e, f)).fst
 (hldZ n op (ex k m v d) (ex k2 m2 v2 d2) (s1, s2) (t1, t2) (e, f)).snd (↑j : Int))])
 (List.range I.len) ∧
 n = n ∧
 (metZ n (oX (linP (ex k m v d))) (s1 - oY (linP (ex k m v d))) (s2 - oY (linP (ex k m v d))) (e, f)).fst =
 (hldZ n op (ex k m v d) (ex k2 m2 v2 d2) (s1, s2) (t1, t2) (e, f)).fst ∧
 ∀ (o : Nat),
 o < nat_lit 49 →
 (metZ n (oX (linP (ex k m v d))) (s1 - oY (linP (ex k m v d))) (s2 - oY (linP (ex k m v d))) (e, f)).snd o =
 (hldZ n op (ex k m v d) (ex k2 m2 v2 d2) (s1, s2) (t1, t2) (e, f)).snd o))) ∧
 (oB (linP (ex k m v d)) = false →
 (oB (linP (ex k2 m2 v2 d2)) = true →
 Rz (t1, t2) ∧
 ((-1099511627776 : Int) ≤ oY (linP (ex k2 m2 v2 d2)) ∧ oY (linP (ex k2 m2 v2 d2)) ≤ (1099511627776 : Int)) ∧
 Good n (e, f) ∧
 I.len ≤ (1000 : Nat) ∧
 ((oB (linP (ex k m v d)) && oB (linP (ex k2 m2 v2 d2)) && oX (linP (ex k m v d)) != oX (linP (ex k2 m2 v2 d2))) = true →
 NumOK n (metZ n (oX (linP (ex k2 m2 v2 d2))) (t1 - oY (linP (ex k2 m2 v2 d2))) (t2 - oY (linP (ex k2 m2 v2 d2))) (e, f)).fst
 (itD I.len n (metZ n (oX (linP (ex k2 m2 v2 d2))) (t1 - oY (linP (ex k2 m2 v2 d2))) (t2 - oY (linP (ex k2 m2 v2 d2))) (e, f)))
 (metZ n (oX (linP (ex k2 m2 v2 d2))) (t1 - oY (linP (ex k2 m2 v2 d2))) (t2 - oY (linP (ex k2 m2 v2 d2))) (e, f)).fst
 (metZ n (oX (linP (ex k2 m2 v2 d2))) (t1 - oY (linP (ex k2 m2 v2 d2))) (t2 - oY (linP (ex k2 m2 v2 d2))) (e, f)).snd ∧
 ((-2199023255552 : Int) ≤ IntKind.i64.wrap (oY (linP (ex k2 m2 v2 d2)) - oY (linP (ex k m v d))) ∧
 IntKind.i64.wrap (oY (linP (ex k2 m2 v2 d2)) - oY (linP (ex k m v d))) ≤ (2199023255552 : Int)) ∧
 (bdZ n op (oX (linP (ex k m v d))) (oX (linP (ex k2 m2 v2 d2)))
 (IntKind.i64.wrap (oY (linP (ex k2 m2 v2 d2)) - oY (linP (ex k m v d))))
 ((metZ n (oX (linP (ex k2 m2 v2 d2))) (t1 - oY (linP (ex k2 m2 v2 d2))) (t2 - oY (linP (ex k2 m2 v2 d2))) (e, f)).fst,
 (metZ n (oX (linP (ex k2 m2 v2 d2))) (t1 - oY (linP (ex k2 m2 v2 d2))) (t2 - oY (linP (ex k2 m2 v2 d2)))
 (e, f)).snd)).fst =
 (hldZ n op (ex k m v d) (ex k2 m2 v2 d2) (s1, s2) (t1, t2) (e, f)).fst ∧
 List.map
 (fun (j : Nat) =>
 [D.i
 (itvLo n
 (bdZ n op (oX (linP (ex k m v d))) (oX (linP (ex k2 m2 v2 d2)))
 (IntKind.i64.wrap (oY (linP (ex k2 m2 v2 d2)) - oY (linP (ex k m v d))))
 ((metZ n (oX (linP (ex k2 m2 v2 d2))) (t1 - oY (linP (ex k2 m2 v2 d2))) (t2 - oY (linP (ex k2 m2 v2 d2)))
 (e, f)).fst,
 (metZ n (oX (linP (ex k2 m2 v2 d2))) (t1 - oY (linP (ex k2 m2 v2 d2))) (t2 - oY (linP (ex k2 m2 v2 d2)))
 (e, f)).snd)).fst
 (bdZ n op (oX (linP (ex k m v d))) (oX (linP (ex k2 m2 v2 d2)))
 (IntKind.i64.wrap (oY (linP (ex k2 m2 v2 d2)) - oY (linP (ex k m v d))))
 ((metZ n (oX (linP (ex k2 m2 v2 d2))) (t1 - oY (linP (ex k2 m2 v2 d2))) (t2 - oY (linP (ex k2 m2 v2 d2)))
 (e, f)).fst,
 (metZ n (oX (linP (ex k2 m2 v2 d2))) (t1 - oY (linP (ex k2 m2 v2 d2))) (t2 - oY (linP (ex k2 m2 v2 d2)))
 (e, f)).snd)).snd
 (↑j : Int)),
 D.i
 (itvHi n
 (bdZ n op (oX (linP (ex k m v d))) (oX (linP (ex k2 m2 v2 d2)))
 (IntKind.i64.wrap (oY (linP (ex k2 m2 v2 d2)) - oY (linP (ex k m v d))))
 ((metZ n (oX (linP (ex k2 m2 v2 d2))) (t1 - oY (linP (ex k2 m2 v2 d2))) (t2 - oY (linP (ex k2 m2 v2 d2)))
 (e, f)).fst,
 (metZ n (oX (linP (ex k2 m2 v2 d2))) (t1 - oY (linP (ex k2 m2 v2 d2))) (t2 - oY (linP (ex k2 m2 v2 d2)))
 (e, f)).snd)).fst
 (bdZ n op (oX (linP (ex k m v d))) (oX (linP (ex k2 m2 v2 d2)))
 (IntKind.i64.wrap (oY (linP (ex k2 m2 v2 d2)) - oY (linP (ex k m v d))))
 ((metZ n (oX (linP (ex k2 m2 v2 d2))) (t1 - oY (linP (ex k2 m2 v2 d2))) (t2 - oY (linP (ex k2 m2 v2 d2)))
 (e, f)).fst,
 (metZ n (oX (linP (ex k2 m2 v2 d2))) (t1 - oY (linP (ex k2 m2 v2 d2))) (t2 - oY (linP (ex k2 m2 v2 d2)))
 (e, f)).snd)).snd
 (↑j : Int))])
 (List.range
 (itD I.len n
 (metZ n (oX (linP (ex k2 m2 v2 d2))) (t1 - oY (linP (ex k2 m2 v2 d2))) (t2 - oY (linP (ex k2 m2 v2 d2)))
 (e, f))).len) =
 List.map
 (fun (j : Nat) =>
 [D.i
 (itvLo n (hldZ n op (ex k m v d) (ex k2 m2 v2 d2) (s1, s2) (t1, t2) (e, f)).fst
 (hldZ n op (ex k m v d) (ex k2 m2 v2 d2) (s1, s2) (t1, t2) (e, f)).snd (↑j : Int)),
 D.i
 (itvHi n (hldZ n op (ex k m v d) (ex k2 m2 v2 d2) (s1, s2) (t1, t2) (e, f)).fst
 (hldZ n op (ex k m v d) (ex k2 m2 v2 d2) (s1, s2) (t1, t2) (e, f)).snd (↑j : Int))])
 (List.range I.len) ∧
 n = n ∧
 (bdZ n op (oX (linP (ex k m v d))) (oX (linP (ex k2 m2 v2 d2)))
 (IntKind.i64.wrap (oY (linP (ex k2 m2 v2 d2)) - oY (linP (ex k m v d))))
 ((metZ n (oX (linP (ex k2 m2 v2 d2))) (t1 - oY (linP (ex k2 m2 v2 d2))) (t2 - oY (linP (ex k2 m2 v2 d2)))
 (e, f)).fst,
 (metZ n (oX (linP (ex k2 m2 v2 d2))) (t1 - oY (linP (ex k2 m2 v2 d2))) (t2 - oY (linP (ex k2 m2 v2 d2)))
 (e, f)).snd)).fst =
 (hldZ n op (ex k m v d) (ex k2 m2 v2 d2) (s1, s2) (t1, t2) (e, f)).fst ∧
 ∀ (o : Nat),
 o < nat_lit 49 →
 (bdZ n op (oX (linP (ex k m v d))) (oX (linP (ex k2 m2 v2 d2)))
 (IntKind.i64.wrap (oY (linP (ex k2 m2 v2 d2)) - oY (linP (ex k m v d))))
 ((metZ n (oX (linP (ex k2 m2 v2 d2))) (t1 - oY (linP (ex k2 m2 v2 d2))) (t2 - oY (linP (ex k2 m2 v2 d2)))
 (e, f)).fst,
 (metZ n (oX (linP (ex k2 m2 v2 d2))) (t1 - oY (linP (ex k2 m2 v2 d2))) (t2 - oY (linP (ex k2 m2 v2 d2)))
 (e, f)).snd)).snd
 o =
 (hldZ n op (ex k m v d) (ex k2 m2 v2 d2) (s1, s2) (t1, t2) (e, f)).snd o) ∧
 ((oB (linP (ex k m v d)) && oB (linP (ex k2 m2 v2 d2)) && oX (linP (ex k m v d)) != oX (linP (ex k2 m2 v2 d2))) = false →
 (metZ n (oX (linP (ex k2 m2 v2 d2))) (t1 - oY (linP (ex k2 m2 v2 d2))) (t2 - oY (linP (ex k2 m2 v2 d2))) (e, f)).fst =
 (hldZ n op (ex k m v d) (ex k2 m2 v2 d2) (s1, s2) (t1, t2) (e, f)).fst ∧
 List.map
 (fun (j : Nat) =>
 [D.i
 (itvLo n
 (metZ n (oX (linP (ex k2 m2 v2 d2))) (t1 - oY (linP (ex k2 m2 v2 d2))) (t2 - oY (linP (ex k2 m2 v2 d2)))
 (e, f)).fst
 (metZ n (oX (linP (ex k2 m2 v2 d2))) (t1 - oY (linP (ex k2 m2 v2 d2))) (t2 - oY (linP (ex k2 m2 v2 d2)))
 (e, f)).snd
 (↑j : Int)),
 D.i
 (itvHi n
 (metZ n (oX (linP (ex k2 m2 v2 d2))) (t1 - oY (linP (ex k2 m2 v2 d2))) (t2 - oY (linP (ex k2 m2 v2 d2)))
 (e, f)).fst
 (metZ n (oX (linP (ex k2 m2 v2 d2))) (t1 - oY (linP (ex k2 m2 v2 d2))) (t2 - oY (linP (ex k2 m2 v2 d2)))
 (e, f)).snd
 (↑j : Int))])
 (List.range I.len) =
 List.map
 (fun (j : Nat) =>
 [D.i
 (itvLo n (hldZ n op (ex k m v d) (ex k2 m2 v2 d2) (s1, s2) (t1, t2) (e, f)).fst
 (hldZ n op (ex k m v d) (ex k2 m2 v2 d2) (s1, s2) (t1, t2) (e, f)).snd (↑j : Int)),
 D.i
 (itvHi n (hldZ n op (ex k m v d) (ex k2 m2 v2 d2) (s1, s2) (t1, t2) (e, f)).fst
 (hldZ n op (ex k m v d) (ex k2 m2 v2 d2) (s1, s2) (t1, t2) (e, f)).snd (↑j : Int))])
 (List.range I.len) ∧
 n = n ∧
 (metZ n (oX (linP (ex k2 m2 v2 d2))) (t1 - oY (linP (ex k2 m2 v2 d2))) (t2 - oY (linP (ex k2 m2 v2 d2))) (e, f)).fst =
 (hldZ n op (ex k m v d) (ex k2 m2 v2 d2) (s1, s2) (t1, t2) (e, f)).fst ∧
 ∀ (o : Nat),
 o < nat_lit 49 →
 (metZ n (oX (linP (ex k2 m2 v2 d2))) (t1 - oY (linP (ex k2 m2 v2 d2))) (t2 - oY (linP (ex k2 m2 v2 d2))) (e, f)).snd
 o =
 (hldZ n op (ex k m v d) (ex k2 m2 v2 d2) (s1, s2) (t1, t2) (e, f)).snd o)) ∧
 (oB (linP (ex k2 m2 v2 d2)) = false →
 ((oB (linP (ex k m v d)) && oB (linP (ex k2 m2 v2 d2)) && oX (linP (ex k m v d)) != oX (linP (ex k2 m2 v2 d2))) = true →
 NumOK n c I e f ∧
 ((-2199023255552 : Int) ≤ IntKind.i64.wrap (oY (linP (ex k2 m2 v2 d2)) - oY (linP (ex k m v d))) ∧
 IntKind.i64.wrap (oY (linP (ex k2 m2 v2 d2)) - oY (linP (ex k m v d))) ≤ (2199023255552 : Int)) ∧
 (bdZ n op (oX (linP (ex k m v d))) (oX (linP (ex k2 m2 v2 d2)))
 (IntKind.i64.wrap (oY (linP (ex k2 m2 v2 d2)) - oY (linP (ex k m v d)))) (e, f)).fst =
 (hldZ n op (ex k m v d) (ex k2 m2 v2 d2) (s1, s2) (t1, t2) (e, f)).fst ∧
 List.map
 (fun (j : Nat) =>
 [D.i
 (itvLo n
 (bdZ n op (oX (linP (ex k m v d))) (oX (linP (ex k2 m2 v2 d2)))
 (IntKind.i64.wrap (oY (linP (ex k2 m2 v2 d2)) - oY (linP (ex k m v d)))) (e, f)).fst
 (bdZ n op (oX (linP (ex k m v d))) (oX (linP (ex k2 m2 v2 d2)))
 (IntKind.i64.wrap (oY (linP (ex k2 m2 v2 d2)) - oY (linP (ex k m v d)))) (e, f)).snd
 (↑j : Int)),
 D.i
 (itvHi n
 (bdZ n op (oX (linP (ex k m v d))) (oX (linP (ex k2 m2 v2 d2)))
 (IntKind.i64.wrap (oY (linP (ex k2 m2 v2 d2)) - oY (linP (ex k m v d)))) (e, f)).fst
 (bdZ n op (oX (linP (ex k m v d))) (oX (linP (ex k2 m2 v2 d2)))
 (IntKind.i64.wrap (oY (linP (ex k2 m2 v2 d2)) - oY (linP (ex k m v d)))) (e, f)).snd
 (↑j : Int))])
 (List.range I.len) =
 List.map
 (fun (j : Nat) =>
 [D.i
 (itvLo n (hldZ n op (ex k m v d) (ex k2 m2 v2 d2) (s1, s2) (t1, t2) (e, f)).fst
 (hldZ n op (ex k m v d) (ex k2 m2 v2 d2) (s1, s2) (t1, t2) (e, f)).snd (↑j : Int)),
 D.i
 (itvHi n (hldZ n op (ex k m v d) (ex k2 m2 v2 d2) (s1, s2) (t1, t2) (e, f)).fst
 (hldZ n op (ex k m v d) (ex k2 m2 v2 d2) (s1, s2) (t1, t2) (e, f)).snd (↑j : Int))])
 (List.range I.len) ∧
 n = n ∧
 (bdZ n op (oX (linP (ex k m v d))) (oX (linP (ex k2 m2 v2 d2)))
 (IntKind.i64.wrap (oY (linP (ex k2 m2 v2 d2)) - oY (linP (ex k m v d)))) (e, f)).fst =
 (hldZ n op (ex k m v d) (ex k2 m2 v2 d2) (s1, s2) (t1, t2) (e, f)).fst ∧
 ∀ (o : Nat),
 o < nat_lit 49 →
 (bdZ n op (oX (linP (ex k m v d))) (oX (linP (ex k2 m2 v2 d2)))
 (IntKind.i64.wrap (oY (linP (ex k2 m2 v2 d2)) - oY (linP (ex k m v d)))) (e, f)).snd
 o =
 (hldZ n op (ex k m v d) (ex k2 m2 v2 d2) (s1, s2) (t1, t2) (e, f)).snd o) ∧
 ((oB (linP (ex k m v d)) && oB (linP (ex k2 m2 v2 d2)) && oX (linP (ex k m v d)) != oX (linP (ex k2 m2 v2 d2))) = false →
 c = (hldZ n op (ex k m v d) (ex k2 m2 v2 d2) (s1, s2) (t1, t2) (e, f)).fst ∧
 I.rows =
 List.map
 (fun (j : Nat) =>
 [D.i
 (itvLo n (hldZ n op (ex k m v d) (ex k2 m2 v2 d2) (s1, s2) (t1, t2) (e, f)).fst
 (hldZ n op (ex k m v d) (ex k2 m2 v2 d2) (s1, s2) (t1, t2) (e, f)).snd (↑j : Int)),
 D.i
 (itvHi n (hldZ n op (ex k m v d) (ex k2 m2 v2 d2) (s1, s2) (t1, t2) (e, f)).fst
 (hldZ n op (ex k m v d) (ex k2 m2 v2 d2) (s1, s2) (t1, t2) (e, f)).snd (↑j : Int))])
 (List.range I.len) ∧
 n = n ∧
 e = (hldZ n op (ex k m v d) (ex k2 m2 v2 d2) (s1, s2) (t1, t2) (e, f)).fst ∧
 ∀ (o : Nat), o < nat_lit 49 → f o = (hldZ n op (ex k m v d) (ex k2 m2 v2 d2) (s1, s2) (t1, t2) (e, f)).snd o)))) (by kernel_rfl) ?_
    intro h hn hs ht
    have hz := h.good
    have hle := h.le
    have hpos : 0 < I.len := by rw [h.len]; omega
    have hlen := h.len
    have hL := @lin_in (ex k m v d)
    have hR := @lin_in (ex k2 m2 v2 d2)
    have hI := h.rows
    have hc := h.c
    unfold hldZ
    generalize linP (ex k m v d) = L at *
    generalize linP (ex k2 m2 v2 d2) = R at *
    simp only [itD_len, hlen] at *
    rcases L with _ | ⟨x, a⟩ <;> rcases R with _ | ⟨y, b⟩ <;> simp only [oX_some, oY_some, oB_some, oX_none, oY_none, oB_none, Bool.false_eq_true, false_implies, true_implies, and_true, true_and, Bool.and_false, Bool.false_and, Bool.and_self, Bool.true_eq_false]
    · exact ⟨⟨hpos, hle⟩, hc, hI, fun _ _ => trivial⟩
    · exact ⟨⟨hpos, hle⟩, ht, hR rfl, hz, hle, fun _ _ => trivial⟩
    · exact ⟨⟨hpos, hle⟩, hs, hL rfl, hz, hle, fun _ _ => trivial⟩
    · have hb := hR rfl
      have ha := hL rfl
      have w : IntKind.i64.wrap (b - a) = b - a := wr _ (by omega)
      rw [w]
      have g1 := good_met hz x (s1 - a) (s2 - a)
      have g2 := good_met g1 y (t1 - b) (t2 - b)
      refine ⟨⟨hpos, hle⟩, hs, ha, hz, hle, ht, hb, g1, hle, fun c => ?_, fun c => ?_⟩
      · have c : x ≠ y := by simpa using c
        rw [if_pos c]; exact ⟨numOK_of g2, by omega, rfl, rfl, rfl, fun _ _ => rfl⟩
      · have c : ¬ x ≠ y := by simpa using c
        rw [if_neg c]; exact ⟨rfl, rfl, rfl, fun _ _ => rfl⟩
  · trivial
noncomputable def assumeS : FSpec := fun ds _ => match ds with
  | [.b c, .d I, .i n, .b e, .f f, .i op, .i k, .i m, .i v, .d d, .i k2, .i m2, .i v2, .d d2] => some { val := .tup [.agg [.c (.bool (.sym ((asmZ n op (ex k m v d) (ex k2 m2 v2 d2) (e, f)).1 : Zs).1)), .c (.rows 53 (itD (n.toNat) (n) ((asmZ n op (ex k m v d) (ex k2 m2 v2 d2) (e, f)).1))), .c (.int .i64 (.sym (n))), .c (.bool (.sym ((asmZ n op (ex k m v d) (ex k2 m2 v2 d2) (e, f)).1 : Zs).1)), .ints .i64 (.lit 49) ((asmZ n op (ex k m v d) (ex k2 m2 v2 d2) (e, f)).1 : Zs).2], .agg [.c (.bool (.sym ((asmZ n op (ex k m v d) (ex k2 m2 v2 d2) (e, f)).2).1)), .c (.bool (.sym ((asmZ n op (ex k m v d) (ex k2 m2 v2 d2) (e, f)).2).2))]], vc := [NumOK n c I e f, 0 < n] }
  | _ => none
noncomputable def assumeC : Con := con [numA, .agg [.c (.int .i64), .c (.int .i64), .c (.int .i64), .c (.int .i64), .c (.rows 25), .c (.int .i64), .c (.int .i64), .c (.int .i64), .c (.rows 25)]] assumeS
theorem assume_ok : ConOK Tryz.prog 81 assumeC := by
  refine fn_ob tt_ok mixed Tryz.func81 rfl (fun _ _ => by kernel_rfl) (A := fun ds => ⟨fun _ => Cons.of [(57, nnoneC), (110, ebothNC), (111, itestC), (48, emptyC), (112, heldC)], fun _ => none, fun _ => none⟩) (fun _ _ => (cons_cons nnone_ok (cons_cons ebothN_ok (cons_cons itest_ok (cons_cons empty_ok (cons_cons held_ok cons_nil)))))) (by kernel_rfl) ?_
  intro ds fr
  unfold assumeS
  split
  · rename_i c I n e f op k m v d k2 m2 v2 d2
    refine kmp (q := NumOK n c I e f →
 (0 : Int) < n →
 (c = true →
 true = (asmZ n op (ex k m v d) (ex k2 m2 v2 d2) (e, f)).fst.fst ∧
 List.map
 (fun (j : Nat) =>
 [D.i (itvLo (topN (↑I.len : Int)) true (fun (x : Nat) => (0 : Int)) (↑j : Int)),
 D.i (itvHi (topN (↑I.len : Int)) true (fun (x : Nat) => (0 : Int)) (↑j : Int))])
 (List.range (topN (↑I.len : Int)).toNat) =
 List.map
 (fun (j : Nat) =>
 [D.i (itvLo n (asmZ n op (ex k m v d) (ex k2 m2 v2 d2) (e, f)).fst.fst (asmZ n op (ex k m v d) (ex k2 m2 v2 d2) (e, f)).fst.snd (↑j : Int)),
 D.i (itvHi n (asmZ n op (ex k m v d) (ex k2 m2 v2 d2) (e, f)).fst.fst (asmZ n op (ex k m v d) (ex k2 m2 v2 d2) (e, f)).fst.snd (↑j : Int))])
 (List.range n.toNat) ∧
 topN (↑I.len : Int) = n ∧
 true = (asmZ n op (ex k m v d) (ex k2 m2 v2 d2) (e, f)).fst.fst ∧
 (∀ (o : Nat), o < nat_lit 49 → (0 : Int) = (asmZ n op (ex k m v d) (ex k2 m2 v2 d2) (e, f)).fst.snd o) ∧
 false = (asmZ n op (ex k m v d) (ex k2 m2 v2 d2) (e, f)).snd.fst ∧ false = (asmZ n op (ex k m v d) (ex k2 m2 v2 d2) (e, f)).snd.snd) ∧
 (c = false →
 RgI I ∧
 Rg ((bothI (recP I (ex k m v d)) (recP I (ex k2 m2 v2 d2))).fst.fst, (bothI (recP I (ex k m v d)) (recP I (ex k2 m2 v2 d2))).fst.snd) ∧
 Rg ((bothI (recP I (ex k m v d)) (recP I (ex k2 m2 v2 d2))).snd.fst.fst, (bothI (recP I (ex k m v d)) (recP I (ex k2 m2 v2 d2))).snd.fst.snd) ∧
 ((decide
 ((tstI op
 ((bothI (recP I (ex k m v d)) (recP I (ex k2 m2 v2 d2))).fst.fst,
 (bothI (recP I (ex k m v d)) (recP I (ex k2 m2 v2 d2))).fst.snd)
 ((bothI (recP I (ex k m v d)) (recP I (ex k2 m2 v2 d2))).snd.fst.fst,
 (bothI (recP I (ex k m v d)) (recP I (ex k2 m2 v2 d2))).snd.fst.snd)).fst.snd <
 (tstI op
 ((bothI (recP I (ex k m v d)) (recP I (ex k2 m2 v2 d2))).fst.fst,
 (bothI (recP I (ex k m v d)) (recP I (ex k2 m2 v2 d2))).fst.snd)
 ((bothI (recP I (ex k m v d)) (recP I (ex k2 m2 v2 d2))).snd.fst.fst,
 (bothI (recP I (ex k m v d)) (recP I (ex k2 m2 v2 d2))).snd.fst.snd)).fst.fst) ||
 decide
 ((tstI op
 ((bothI (recP I (ex k m v d)) (recP I (ex k2 m2 v2 d2))).fst.fst,
 (bothI (recP I (ex k m v d)) (recP I (ex k2 m2 v2 d2))).fst.snd)
 ((bothI (recP I (ex k m v d)) (recP I (ex k2 m2 v2 d2))).snd.fst.fst,
 (bothI (recP I (ex k m v d)) (recP I (ex k2 m2 v2 d2))).snd.fst.snd)).snd.snd <
 (tstI op
 ((bothI (recP I (ex k m v d)) (recP I (ex k2 m2 v2 d2))).fst.fst,
 (bothI (recP I (ex k m v d)) (recP I (ex k2 m2 v2 d2))).fst.snd)
 ((bothI (recP I (ex k m v d)) (recP I (ex k2 m2 v2 d2))).snd.fst.fst,
 (bothI (recP I (ex k m v d)) (recP I (ex k2 m2 v2 d2))).snd.fst.snd)).snd.fst)) =
 true →
 true = (asmZ n op (ex k m v d) (ex k2 m2 v2 d2) (e, f)).fst.fst ∧
 List.map
 (fun (j : Nat) =>
 [D.i (itvLo (topN (↑I.len : Int)) true (fun (x : Nat) => (0 : Int)) (↑j : Int)),
 D.i (itvHi (topN (↑I.len : Int)) true (fun (x : Nat) => (0 : Int)) (↑j : Int))])
 (List.range (topN (↑I.len : Int)).toNat) =
 List.map
 (fun (j : Nat) =>
 [D.i
 (itvLo n (asmZ n op (ex k m v d) (ex k2 m2 v2 d2) (e, f)).fst.fst (asmZ n op (ex k m v d) (ex k2 m2 v2 d2) (e, f)).fst.snd
 (↑j : Int)),
 D.i
 (itvHi n (asmZ n op (ex k m v d) (ex k2 m2 v2 d2) (e, f)).fst.fst (asmZ n op (ex k m v d) (ex k2 m2 v2 d2) (e, f)).fst.snd
 (↑j : Int))])
 (List.range n.toNat) ∧
 topN (↑I.len : Int) = n ∧
 true = (asmZ n op (ex k m v d) (ex k2 m2 v2 d2) (e, f)).fst.fst ∧
 (∀ (o : Nat), o < nat_lit 49 → (0 : Int) = (asmZ n op (ex k m v d) (ex k2 m2 v2 d2) (e, f)).fst.snd o) ∧
 (bothI (recP I (ex k m v d)) (recP I (ex k2 m2 v2 d2))).snd.snd.fst = (asmZ n op (ex k m v d) (ex k2 m2 v2 d2) (e, f)).snd.fst ∧
 (bothI (recP I (ex k m v d)) (recP I (ex k2 m2 v2 d2))).snd.snd.snd = (asmZ n op (ex k m v d) (ex k2 m2 v2 d2) (e, f)).snd.snd) ∧
 ((decide
 ((tstI op
 ((bothI (recP I (ex k m v d)) (recP I (ex k2 m2 v2 d2))).fst.fst,
 (bothI (recP I (ex k m v d)) (recP I (ex k2 m2 v2 d2))).fst.snd)
 ((bothI (recP I (ex k m v d)) (recP I (ex k2 m2 v2 d2))).snd.fst.fst,
 (bothI (recP I (ex k m v d)) (recP I (ex k2 m2 v2 d2))).snd.fst.snd)).fst.snd <
 (tstI op
 ((bothI (recP I (ex k m v d)) (recP I (ex k2 m2 v2 d2))).fst.fst,
 (bothI (recP I (ex k m v d)) (recP I (ex k2 m2 v2 d2))).fst.snd)
 ((bothI (recP I (ex k m v d)) (recP I (ex k2 m2 v2 d2))).snd.fst.fst,
 (bothI (recP I (ex k m v d)) (recP I (ex k2 m2 v2 d2))).snd.fst.snd)).fst.fst) ||
 decide
 ((tstI op
 ((bothI (recP I (ex k m v d)) (recP I (ex k2 m2 v2 d2))).fst.fst,
 (bothI (recP I (ex k m v d)) (recP I (ex k2 m2 v2 d2))).fst.snd)
 ((bothI (recP I (ex k m v d)) (recP I (ex k2 m2 v2 d2))).snd.fst.fst,
 (bothI (recP I (ex k m v d)) (recP I (ex k2 m2 v2 d2))).snd.fst.snd)).snd.snd <
 (tstI op
 ((bothI (recP I (ex k m v d)) (recP I (ex k2 m2 v2 d2))).fst.fst,
 (bothI (recP I (ex k m v d)) (recP I (ex k2 m2 v2 d2))).fst.snd)
 ((bothI (recP I (ex k m v d)) (recP I (ex k2 m2 v2 d2))).snd.fst.fst,
 (bothI (recP I (ex k m v d)) (recP I (ex k2 m2 v2 d2))).snd.fst.snd)).snd.fst)) =
 false →
 NumOK n c I e f ∧
 (0 : Int) < n ∧
 Rz
 ((tstI op
 ((bothI (recP I (ex k m v d)) (recP I (ex k2 m2 v2 d2))).fst.fst,
 (bothI (recP I (ex k m v d)) (recP I (ex k2 m2 v2 d2))).fst.snd)
 ((bothI (recP I (ex k m v d)) (recP I (ex k2 m2 v2 d2))).snd.fst.fst,
 (bothI (recP I (ex k m v d)) (recP I (ex k2 m2 v2 d2))).snd.fst.snd)).fst.fst,
 (tstI op
 ((bothI (recP I (ex k m v d)) (recP I (ex k2 m2 v2 d2))).fst.fst,
 (bothI (recP I (ex k m v d)) (recP I (ex k2 m2 v2 d2))).fst.snd)
 ((bothI (recP I (ex k m v d)) (recP I (ex k2 m2 v2 d2))).snd.fst.fst,
 (bothI (recP I (ex k m v d)) (recP I (ex k2 m2 v2 d2))).snd.fst.snd)).fst.snd) ∧
 Rz
 ((tstI op
 ((bothI (recP I (ex k m v d)) (recP I (ex k2 m2 v2 d2))).fst.fst,
 (bothI (recP I (ex k m v d)) (recP I (ex k2 m2 v2 d2))).fst.snd)
 ((bothI (recP I (ex k m v d)) (recP I (ex k2 m2 v2 d2))).snd.fst.fst,
 (bothI (recP I (ex k m v d)) (recP I (ex k2 m2 v2 d2))).snd.fst.snd)).snd.fst,
 (tstI op
 ((bothI (recP I (ex k m v d)) (recP I (ex k2 m2 v2 d2))).fst.fst,
 (bothI (recP I (ex k m v d)) (recP I (ex k2 m2 v2 d2))).fst.snd)
 ((bothI (recP I (ex k m v d)) (recP I (ex k2 m2 v2 d2))).snd.fst.fst,
 (bothI (recP I (ex k m v d)) (recP I (ex k2 m2 v2 d2))).snd.fst.snd)).snd.snd) ∧
 (hldZ n op (ex k m v d) (ex k2 m2 v2 d2)
 ((tstI op
 ((bothI (recP I (ex k m v d)) (recP I (ex k2 m2 v2 d2))).fst.fst,
 (bothI (recP I (ex k m v d)) (recP I (ex k2 m2 v2 d2))).fst.snd)
 ((bothI (recP I (ex k m v d)) (recP I (ex k2 m2 v2 d2))).snd.fst.fst,
 (bothI (recP I (ex k m v d)) (recP I (ex k2 m2 v2 d2))).snd.fst.snd)).fst.fst,
 (tstI op
 ((bothI (recP I (ex k m v d)) (recP I (ex k2 m2 v2 d2))).fst.fst,
 (bothI (recP I (ex k m v d)) (recP I (ex k2 m2 v2 d2))).fst.snd)
 ((bothI (recP I (ex k m v d)) (recP I (ex k2 m2 v2 d2))).snd.fst.fst,
 (bothI (recP I (ex k m v d)) (recP I (ex k2 m2 v2 d2))).snd.fst.snd)).fst.snd)
 ((tstI op
 ((bothI (recP I (ex k m v d)) (recP I (ex k2 m2 v2 d2))).fst.fst,
 (bothI (recP I (ex k m v d)) (recP I (ex k2 m2 v2 d2))).fst.snd)
 ((bothI (recP I (ex k m v d)) (recP I (ex k2 m2 v2 d2))).snd.fst.fst,
 (bothI (recP I (ex k m v d)) (recP I (ex k2 m2 v2 d2))).snd.fst.snd)).snd.fst,
 (tstI op
 ((bothI (recP I (ex k m v d)) (recP I (ex k2 m2 v2 d2))).fst.fst,
 (bothI (recP I (ex k m v d)) (recP I (ex k2 m2 v2 d2))).fst.snd)
 ((bothI (recP I (ex k m v d)) (recP I (ex k2 m2 v2 d2))).snd.fst.fst,
 (bothI (recP I (ex k m v d)) (recP I (ex k2 m2 v2 d2))).snd.fst.snd)).snd.snd)
 (e, f)).fst =
 (asmZ n op (ex k m v d) (ex k2 m2 v2 d2) (e, f)).fst.fst ∧
 List.map
 (fun (j : Nat) =>
 [D.i
 (itvLo n
 (hldZ n op (ex k m v d) (ex k2 m2 v2 d2)
 ((tstI op
 ((bothI (recP I (ex k m v d)) (recP I (ex k2 m2 v2 d2))).fst.fst,
 (bothI (recP I (ex k m v d)) (recP I (ex k2 m2 v2 d2))).fst.snd)
 ((bothI (recP I (ex k m v d)) (recP I (ex k2 m2 v2 d2))).snd.fst.fst,
 (bothI (recP I (ex k m v d)) (recP I (ex k2 m2 v2 d2))).snd.fst.snd)).fst.fst,
 (tstI op
 ((bothI (recP I (ex k m v d)) (recP I (ex k2 m2 v2 d2))).fst.fst,
 (bothI (recP I (ex k m v d)) (recP I (ex k2 m2 v2 d2))).fst.snd)
 ((bothI (recP I (ex k m v d)) (recP I (ex k2 m2 v2 d2))).snd.fst.fst,
 (bothI (recP I (ex k m v d)) (recP I (ex k2 m2 v2 d2))).snd.fst.snd)).fst.snd)
 ((tstI op
 ((bothI (recP I (ex k m v d)) (recP I (ex k2 m2 v2 d2))).fst.fst,
 (bothI (recP I (ex k m v d)) (recP I (ex k2 m2 v2 d2))).fst.snd)
 ((bothI (recP I (ex k m v d)) (recP I (ex k2 m2 v2 d2))).snd.fst.fst,
 (bothI (recP I (ex k m v d)) (recP I (ex k2 m2 v2 d2))).snd.fst.snd)).snd.fst,
 (tstI op
 ((bothI (recP I (ex k m v d)) (recP I (ex k2 m2 v2 d2))).fst.fst,
 (bothI (recP I (ex k m v d)) (recP I (ex k2 m2 v2 d2))).fst.snd)
 ((bothI (recP I (ex k m v d)) (recP I (ex k2 m2 v2 d2))).snd.fst.fst,
 (bothI (recP I (ex k m v d)) (recP I (ex k2 m2 v2 d2))).snd.fst.snd)).snd.snd)
 (e, f)).fst
 (hldZ n op (ex k m v d) (ex k2 m2 v2 d2)
 ((tstI op
 ((bothI (recP I (ex k m v d)) (recP I (ex k2 m2 v2 d2))).fst.fst,
 (bothI (recP I (ex k m v d)) (recP I (ex k2 m2 v2 d2))).fst.snd)
 ((bothI (recP I (ex k m v d)) (recP I (ex k2 m2 v2 d2))).snd.fst.fst,
 (bothI (recP I (ex k m v d)) (recP I (ex k2 m2 v2 d2))).snd.fst.snd)).fst.fst,
 (tstI op
 ((bothI (recP I (ex k m v d)) (recP I (ex k2 m2 v2 d2))).fst.fst,
 (bothI (recP I (ex k m v d)) (recP I (ex k2 m2 v2 d2))).fst.snd)
 ((bothI (recP I (ex k m v d)) (recP I (ex k2 m2 v2 d2))).snd.fst.fst,
 (bothI (recP I (ex k m v d)) (recP I (ex k2 m2 v2 d2))).snd.fst.snd)).fst.snd)
 ((tstI op
 ((bothI (recP I (ex k m v d)) (recP I (ex k2 m2 v2 d2))).fst.fst,
 (bothI (recP I (ex k m v d)) (recP I (ex k2 m2 v2 d2))).fst.snd)
 ((bothI (recP I (ex k m v d)) (recP I (ex k2 m2 v2 d2))).snd.fst.fst,
 (bothI (recP I (ex k m v d)) (recP I (ex k2 m2 v2 d2))).snd.fst.snd)).snd.fst,
 (tstI op
 ((bothI (recP I (ex k m v d)) (recP I (ex k2 m2 v2 d2))).fst.fst,
 (bothI (recP I (ex k m v d)) (recP I (ex k2 m2 v2 d2))).fst.snd)
 ((bothI (recP I (ex k m v d)) (recP I (ex k2 m2 v2 d2))).snd.fst.fst,
 (bothI (recP I (ex k m v d)) (recP I (ex k2 m2 v2 d2))).snd.fst.snd)).snd.snd)
 (e, f)).snd
 (↑j : Int)),
 D.i
 (itvHi n
 (hldZ n op (ex k m v d) (ex k2 m2 v2 d2)
 ((tstI op
 ((bothI (recP I (ex k m v d)) (recP I (ex k2 m2 v2 d2))).fst.fst,
 (bothI (recP I (ex k m v d)) (recP I (ex k2 m2 v2 d2))).fst.snd)
 ((bothI (recP I (ex k m v d)) (recP I (ex k2 m2 v2 d2))).snd.fst.fst,
 (bothI (recP I (ex k m v d)) (recP I (ex k2 m2 v2 d2))).snd.fst.snd)).fst.fst,
 (tstI op
 ((bothI (recP I (ex k m v d)) (recP I (ex k2 m2 v2 d2))).fst.fst,
 (bothI (recP I (ex k m v d)) (recP I (ex k2 m2 v2 d2))).fst.snd)
 ((bothI (recP I (ex k m v d)) (recP I (ex k2 m2 v2 d2))).snd.fst.fst,
 (bothI (recP I (ex k m v d)) (recP I (ex k2 m2 v2 d2))).snd.fst.snd)).fst.snd)
 ((tstI op
 ((bothI (recP I (ex k m v d)) (recP I (ex k2 m2 v2 d2))).fst.fst,
 (bothI (recP I (ex k m v d)) (recP I (ex k2 m2 v2 d2))).fst.snd)
 ((bothI (recP I (ex k m v d)) (recP I (ex k2 m2 v2 d2))).snd.fst.fst,
 (bothI (recP I (ex k m v d)) (recP I (ex k2 m2 v2 d2))).snd.fst.snd)).snd.fst,
 (tstI op
 ((bothI (recP I (ex k m v d)) (recP I (ex k2 m2 v2 d2))).fst.fst,
 (bothI (recP I (ex k m v d)) (recP I (ex k2 m2 v2 d2))).fst.snd)
 ((bothI (recP I (ex k m v d)) (recP I (ex k2 m2 v2 d2))).snd.fst.fst,
 (bothI (recP I (ex k m v d)) (recP I (ex k2 m2 v2 d2))).snd.fst.snd)).snd.snd)
 (e, f)).fst
 (hldZ n op (ex k m v d) (ex k2 m2 v2 d2)
 ((tstI op
 ((bothI (recP I (ex k m v d)) (recP I (ex k2 m2 v2 d2))).fst.fst,
 (bothI (recP I (ex k m v d)) (recP I (ex k2 m2 v2 d2))).fst.snd)
 ((bothI (recP I (ex k m v d)) (recP I (ex k2 m2 v2 d2))).snd.fst.fst,
 (bothI (recP I (ex k m v d)) (recP I (ex k2 m2 v2 d2))).snd.fst.snd)).fst.fst,
 (tstI op
 ((bothI (recP I (ex k m v d)) (recP I (ex k2 m2 v2 d2))).fst.fst,
 (bothI (recP I (ex k m v d)) (recP I (ex k2 m2 v2 d2))).fst.snd)
 ((bothI (recP I (ex k m v d)) (recP I (ex k2 m2 v2 d2))).snd.fst.fst,
 (bothI (recP I (ex k m v d)) (recP I (ex k2 m2 v2 d2))).snd.fst.snd)).fst.snd)
 ((tstI op
 ((bothI (recP I (ex k m v d)) (recP I (ex k2 m2 v2 d2))).fst.fst,
 (bothI (recP I (ex k m v d)) (recP I (ex k2 m2 v2 d2))).fst.snd)
 ((bothI (recP I (ex k m v d)) (recP I (ex k2 m2 v2 d2))).snd.fst.fst,
 (bothI (recP I (ex k m v d)) (recP I (ex k2 m2 v2 d2))).snd.fst.snd)).snd.fst,
 (tstI op
 ((bothI (recP I (ex k m v d)) (recP I (ex k2 m2 v2 d2))).fst.fst,
 (bothI (recP I (ex k m v d)) (recP I (ex k2 m2 v2 d2))).fst.snd)
 ((bothI (recP I (ex k m v d)) (recP I (ex k2 m2 v2 d2))).snd.fst.fst,
 (bothI (recP I (ex k m v d)) (recP I (ex k2 m2 v2 d2))).snd.fst.snd)).snd.snd)
 (e, f)).snd
 (↑j : Int))])
 (List.range I.len) =
 List.map
 (fun (j : Nat) =>
 [D.i
 (itvLo n (asmZ n op (ex k m v d) (ex k2 m2 v2 d2) (e, f)).fst.fst
 (asmZ n op (ex k m v d) (ex k2 m2 v2 d2) (e, f)).fst.snd (↑j : Int)),
 D.i
 (itvHi n (asmZ n op (ex k m v d) (ex k2 m2 v2 d2) (e, f)).fst.fst
 (asmZ n op (ex k m v d) (ex k2 m2 v2 d2) (e, f)).fst.snd (↑j : Int))])
 (List.range n.toNat) ∧
 n = n ∧
 (hldZ n op (ex k m v d) (ex k2 m2 v2 d2)
 ((tstI op
 ((bothI (recP I (ex k m v d)) (recP I (ex k2 m2 v2 d2))).fst.fst,
 (bothI (recP I (ex k m v d)) (recP I (ex k2 m2 v2 d2))).fst.snd)
 ((bothI (recP I (ex k m v d)) (recP I (ex k2 m2 v2 d2))).snd.fst.fst,
 (bothI (recP I (ex k m v d)) (recP I (ex k2 m2 v2 d2))).snd.fst.snd)).fst.fst,
 (tstI op
 ((bothI (recP I (ex k m v d)) (recP I (ex k2 m2 v2 d2))).fst.fst,
 (bothI (recP I (ex k m v d)) (recP I (ex k2 m2 v2 d2))).fst.snd)
 ((bothI (recP I (ex k m v d)) (recP I (ex k2 m2 v2 d2))).snd.fst.fst,
 (bothI (recP I (ex k m v d)) (recP I (ex k2 m2 v2 d2))).snd.fst.snd)).fst.snd)
 ((tstI op
 ((bothI (recP I (ex k m v d)) (recP I (ex k2 m2 v2 d2))).fst.fst,
 (bothI (recP I (ex k m v d)) (recP I (ex k2 m2 v2 d2))).fst.snd)
 ((bothI (recP I (ex k m v d)) (recP I (ex k2 m2 v2 d2))).snd.fst.fst,
 (bothI (recP I (ex k m v d)) (recP I (ex k2 m2 v2 d2))).snd.fst.snd)).snd.fst,
 (tstI op
 ((bothI (recP I (ex k m v d)) (recP I (ex k2 m2 v2 d2))).fst.fst,
 (bothI (recP I (ex k m v d)) (recP I (ex k2 m2 v2 d2))).fst.snd)
 ((bothI (recP I (ex k m v d)) (recP I (ex k2 m2 v2 d2))).snd.fst.fst,
 (bothI (recP I (ex k m v d)) (recP I (ex k2 m2 v2 d2))).snd.fst.snd)).snd.snd)
 (e, f)).fst =
 (asmZ n op (ex k m v d) (ex k2 m2 v2 d2) (e, f)).fst.fst ∧
 (∀ (o : Nat),
 o < nat_lit 49 →
 (hldZ n op (ex k m v d) (ex k2 m2 v2 d2)
 ((tstI op
 ((bothI (recP I (ex k m v d)) (recP I (ex k2 m2 v2 d2))).fst.fst,
 (bothI (recP I (ex k m v d)) (recP I (ex k2 m2 v2 d2))).fst.snd)
 ((bothI (recP I (ex k m v d)) (recP I (ex k2 m2 v2 d2))).snd.fst.fst,
 (bothI (recP I (ex k m v d)) (recP I (ex k2 m2 v2 d2))).snd.fst.snd)).fst.fst,
 (tstI op
 ((bothI (recP I (ex k m v d)) (recP I (ex k2 m2 v2 d2))).fst.fst,
 (bothI (recP I (ex k m v d)) (recP I (ex k2 m2 v2 d2))).fst.snd)
 ((bothI (recP I (ex k m v d)) (recP I (ex k2 m2 v2 d2))).snd.fst.fst,
 (bothI (recP I (ex k m v d)) (recP I (ex k2 m2 v2 d2))).snd.fst.snd)).fst.snd)
 ((tstI op
 ((bothI (recP I (ex k m v d)) (recP I (ex k2 m2 v2 d2))).fst.fst,
 (bothI (recP I (ex k m v d)) (recP I (ex k2 m2 v2 d2))).fst.snd)
 ((bothI (recP I (ex k m v d)) (recP I (ex k2 m2 v2 d2))).snd.fst.fst,
 (bothI (recP I (ex k m v d)) (recP I (ex k2 m2 v2 d2))).snd.fst.snd)).snd.fst,
 (tstI op
 ((bothI (recP I (ex k m v d)) (recP I (ex k2 m2 v2 d2))).fst.fst,
 (bothI (recP I (ex k m v d)) (recP I (ex k2 m2 v2 d2))).fst.snd)
 ((bothI (recP I (ex k m v d)) (recP I (ex k2 m2 v2 d2))).snd.fst.fst,
 (bothI (recP I (ex k m v d)) (recP I (ex k2 m2 v2 d2))).snd.fst.snd)).snd.snd)
 (e, f)).snd
 o =
 (asmZ n op (ex k m v d) (ex k2 m2 v2 d2) (e, f)).fst.snd o) ∧
 (bothI (recP I (ex k m v d)) (recP I (ex k2 m2 v2 d2))).snd.snd.fst =
 (asmZ n op (ex k m v d) (ex k2 m2 v2 d2) (e, f)).snd.fst ∧
 (bothI (recP I (ex k m v d)) (recP I (ex k2 m2 v2 d2))).snd.snd.snd =
 (asmZ n op (ex k m v d) (ex k2 m2 v2 d2) (e, f)).snd.snd))) (by kernel_rfl) ?_
    intro h hn
    have e1 : asmZ n op (ex k m v d) (ex k2 m2 v2 d2) (e, f) = if c = true then ((true, fun _ => 0), (false, false)) else asmB n op (ex k m v d) (ex k2 m2 v2 d2) (bothI (recP I (ex k m v d)) (recP I (ex k2 m2 v2 d2))) (e, f) := by unfold asmZ; rw [h.recs, h.recs, h.c]
    have hb := both_rg (rec_rg h.rg (ex k m v d)) (rec_rg h.rg (ex k2 m2 v2 d2))
    have tn := h.top
    have hlen := h.len
    rw [e1]
    generalize bothI (recP I (ex k m v d)) (recP I (ex k2 m2 v2 d2)) = B at *
    obtain ⟨⟨l1, l2⟩, ⟨r1, r2⟩, er⟩ := B
    rw [tn]
    refine ⟨fun hc => ?_, fun hc => ?_⟩
    · rw [if_pos hc]; exact ⟨rfl, rfl, rfl, rfl, fun _ _ => rfl, rfl, rfl⟩
    · rw [if_neg (show ¬ c = true by rw [hc]; simp)]
      have hT := tst_nm op (l1, l2) (r1, r2)
      have eB : asmB n op (ex k m v d) (ex k2 m2 v2 d2) ((l1, l2), (r1, r2), er) (e, f) = asmT n op (ex k m v d) (ex k2 m2 v2 d2) (tstI op (l1, l2) (r1, r2)) er (e, f) := rfl
      rw [eB]
      dsimp only
      generalize tstI op (l1, l2) (r1, r2) = T at *
      obtain ⟨⟨s1, s2⟩, ⟨t1, t2⟩⟩ := T
      refine ⟨h.rg, hb.1, hb.2, fun q => ?_, fun q => ?_⟩
      · have q : s2 < s1 ∨ t2 < t1 := by simpa using q
        have eT : asmT n op (ex k m v d) (ex k2 m2 v2 d2) ((s1, s2), (t1, t2)) er (e, f) = ((true, fun _ => 0), er) := if_pos q
        rw [eT]; exact ⟨rfl, rfl, rfl, rfl, fun _ _ => rfl, rfl, rfl⟩
      · have q : ¬ (s2 < s1 ∨ t2 < t1) := by simp at q; omega
        have eT : asmT n op (ex k m v d) (ex k2 m2 v2 d2) ((s1, s2), (t1, t2)) er (e, f) = (hldZ n op (ex k m v d) (ex k2 m2 v2 d2) (s1, s2) (t1, t2) (e, f), er) := if_neg q
        rw [eT, hlen]
        exact ⟨h, hn, nm_rz hT.1 (by dsimp only; omega), nm_rz hT.2 (by dsimp only; omega), rfl, rfl, rfl, rfl, fun _ _ => rfl, rfl, rfl⟩
  · trivial
end Go.Proofs.YtlgmofjjjhbgkaaGreat.Sx.Z
namespace Go.Proofs.YtlgmofjjjhbgkaaGreat.Sx.Z
open Go.RowKit
def notP (op : Int) : Int := if op = 1 then 2 else if op = 2 then 1 else if op = 3 then 6 else if op = 6 then 3 else if op = 4 then 5 else if op = 5 then 4 else 0
noncomputable def fnotS : FSpec := fun ds _ => match ds with
  | [.i op] => some { val := .one (.sc (.int .i64 (.sym (notP op)))), vc := [] }
  | _ => none
noncomputable def fnotC : Con := con [iA] fnotS
theorem fnot_ok : ConOK Tryz.prog 83 fnotC := by
  refine fn_ob tt_ok mixed Tryz.func83 rfl (fun _ _ => by kernel_rfl) (A := fun ds => ⟨fun _ => Cons.of [], fun _ => none, fun _ => none⟩) (fun _ _ => cons_nil) (by kernel_rfl) ?_
  intro ds fr
  unfold fnotS
  split
  · rename_i op
    refine kmp (q := ((op == (1 : Int)) = true → (2 : Int) = notP op) ∧
 ((op == (1 : Int)) = false →
 ((op == (2 : Int)) = true → (1 : Int) = notP op) ∧
 ((op == (2 : Int)) = false →
 ((op == (3 : Int)) = true → (6 : Int) = notP op) ∧
 ((op == (3 : Int)) = false →
 ((op == (6 : Int)) = true → (3 : Int) = notP op) ∧
 ((op == (6 : Int)) = false →
 ((op == (4 : Int)) = true → (5 : Int) = notP op) ∧
 ((op == (4 : Int)) = false → ((op == (5 : Int)) = true → (4 : Int) = notP op) ∧ ((op == (5 : Int)) = false → (0 : Int) = notP op))))))) (by kernel_rfl) ?_
    unfold notP
    grind
  · trivial
noncomputable def tassertS : List Dat → Option (Eff × List Seg) := fun ds => match ds with
  | .d ch :: .d gr :: .d va :: .d el :: .d df :: .i gn :: .d ge :: .d gh :: .i ed :: .b c :: .d I :: .i n :: .b e :: .f f :: .d cn :: .d ru :: .i sc :: .i sg :: .i s0 :: .i s1 :: .d ks :: [.i x0, .i x1, .i x2, .i x3, .i x4, .i x5, .i qk, .i qm, .i qv, .d qd, .i op, .i k, .i m, .i v, .d d, .i k2, .i m2, .i v2, .d d2] => some ({ val := .tup [], vc := [NumOK n c I e f, 0 < n, ks.len ≤ 900], nw := [(0, .orow 3 (kE (kD ks 1 (!(asmZ n (notP op) (ex k m v d) (ex k2 m2 v2 d2) (e, f)).1.1)) (asmZ n op (ex k m v d) (ex k2 m2 v2 d2) (e, f)).2))] }, [.c (.rows 73 (ch)), .c (.rows 35 (gr)), .c (.rows 3 (va)), .c (.rows 75 (el)), .c (.rows 4 (df)), .c (.int .i64 (.sym gn)), .c (.rows 31 (ge)), .c (.rows 3 (gh)), .c (.int .i64 (.sym ed)), .c (.bool (.sym ((asmZ n op (ex k m v d) (ex k2 m2 v2 d2) (e, f)).1 : Zs).1)), .c (.rows 53 (itD (n.toNat) (n) ((asmZ n op (ex k m v d) (ex k2 m2 v2 d2) (e, f)).1))), .c (.int .i64 (.sym (n))), .c (.bool (.sym ((asmZ n op (ex k m v d) (ex k2 m2 v2 d2) (e, f)).1 : Zs).1)), .ints .i64 (.lit 49) ((asmZ n op (ex k m v d) (ex k2 m2 v2 d2) (e, f)).1 : Zs).2, .c (.rows 53 (cn)), .c (.rows 93 (ru)), .c (.int .i64 (.sym (sc))), .c (.int .i64 (.sym (sg))), .c (.int .i64 (.sym (s0))), .c (.int .i64 (.sym (s1))), .c (.osl 3 0 (.lit 0) (.sym (kE (kD ks 1 (!(asmZ n (notP op) (ex k m v d) (ex k2 m2 v2 d2) (e, f)).1.1)) (asmZ n op (ex k m v d) (ex k2 m2 v2 d2) (e, f)).2).len))])
  | _ => none
noncomputable def tassertC : Con := conM 101 [.c (.rows 73), .c (.rows 35), .c (.rows 3), .c (.rows 75), .c (.rows 4), .c (.int .i64), .c (.rows 31), .c (.rows 3), .c (.int .i64), .c .bool, .c (.rows 53), .c (.int .i64), .c .bool, .ints .i64 49, .c (.rows 53), .c (.rows 93), .c (.int .i64), .c (.int .i64), .c (.int .i64), .c (.int .i64), .own 3] [edgeA] tassertS
theorem tassert_ok : ConOK Tryz.prog 63 tassertC := by
  refine fn_obM tt_ok mixed Tryz.func63 rfl (fun _ _ => by kernel_rfl) (A := fun ds => ⟨fun _ => Cons.of [(81, assumeC), (83, fnotC), (80, ttellC), (61, ttellEC)], fun _ => none, fun _ => none⟩) (fun _ _ => (cons_cons assume_ok (cons_cons fnot_ok (cons_cons ttell_ok (cons_cons ttellE_ok cons_nil))))) (by kernel_rfl) ?_
  intro ds
  unfold tassertS
  split
  · rename_i ch gr va el df gn ge gh ed c I n e f cn ru sc sg s0 s1 ks x0 x1 x2 x3 x4 x5 qk qm qv qd op k m v d k2 m2 v2 d2
    refine kmp (q := NumOK n c I e f →
 (0 : Int) < n →
 ks.len ≤ (900 : Nat) →
 NumOK n c I e f ∧
 (0 : Int) < n ∧
 NumOK n c I e f ∧
 (0 : Int) < n ∧
 nat_lit 0 = (0 : Nat) ∧
 ks.len = ks.len ∧
 ks.len ≤ (1000 : Nat) ∧
 nat_lit 0 = (0 : Nat) ∧
 (kD ks (1 : Int) !(asmZ n (notP op) (ex k m v d) (ex k2 m2 v2 d2) (e, f)).fst.fst).len =
 (kD ks (1 : Int) !(asmZ n (notP op) (ex k m v d) (ex k2 m2 v2 d2) (e, f)).fst.fst).len ∧
 (kD ks (1 : Int) !(asmZ n (notP op) (ex k m v d) (ex k2 m2 v2 d2) (e, f)).fst.fst).len ≤ (998 : Nat) ∧
 ch.rows = ch.rows ∧
 gr.rows = gr.rows ∧
 va.rows = va.rows ∧
 el.rows = el.rows ∧
 df.rows = df.rows ∧
 gn = gn ∧
 ge.rows = ge.rows ∧
 gh.rows = gh.rows ∧
 ed = ed ∧
 (asmZ n op (ex k m v d) (ex k2 m2 v2 d2) (e, f)).fst.fst =
 (asmZ n op (ex k m v d) (ex k2 m2 v2 d2) (e, f)).fst.fst ∧
 List.map
 (fun (j : Nat) =>
 [D.i
 (itvLo n (asmZ n op (ex k m v d) (ex k2 m2 v2 d2) (e, f)).fst.fst
 (asmZ n op (ex k m v d) (ex k2 m2 v2 d2) (e, f)).fst.snd (↑j : Int)),
 D.i
 (itvHi n (asmZ n op (ex k m v d) (ex k2 m2 v2 d2) (e, f)).fst.fst
 (asmZ n op (ex k m v d) (ex k2 m2 v2 d2) (e, f)).fst.snd (↑j : Int))])
 (List.range n.toNat) =
 List.map
 (fun (j : Nat) =>
 [D.i
 (itvLo n (asmZ n op (ex k m v d) (ex k2 m2 v2 d2) (e, f)).fst.fst
 (asmZ n op (ex k m v d) (ex k2 m2 v2 d2) (e, f)).fst.snd (↑j : Int)),
 D.i
 (itvHi n (asmZ n op (ex k m v d) (ex k2 m2 v2 d2) (e, f)).fst.fst
 (asmZ n op (ex k m v d) (ex k2 m2 v2 d2) (e, f)).fst.snd (↑j : Int))])
 (List.range n.toNat) ∧
 n = n ∧
 (asmZ n op (ex k m v d) (ex k2 m2 v2 d2) (e, f)).fst.fst =
 (asmZ n op (ex k m v d) (ex k2 m2 v2 d2) (e, f)).fst.fst ∧
 (∀ (o : Nat),
 o < nat_lit 49 →
 (asmZ n op (ex k m v d) (ex k2 m2 v2 d2) (e, f)).fst.snd o =
 (asmZ n op (ex k m v d) (ex k2 m2 v2 d2) (e, f)).fst.snd o) ∧
 cn.rows = cn.rows ∧
 ru.rows = ru.rows ∧
 sc = sc ∧
 sg = sg ∧
 s0 = s0 ∧
 s1 = s1 ∧
 (kE (kD ks (1 : Int) !(asmZ n (notP op) (ex k m v d) (ex k2 m2 v2 d2) (e, f)).fst.fst)
 ((asmZ n op (ex k m v d) (ex k2 m2 v2 d2) (e, f)).snd.fst,
 (asmZ n op (ex k m v d) (ex k2 m2 v2 d2) (e, f)).snd.snd)).len =
 (kE (kD ks (1 : Int) !(asmZ n (notP op) (ex k m v d) (ex k2 m2 v2 d2) (e, f)).fst.fst)
 (asmZ n op (ex k m v d) (ex k2 m2 v2 d2) (e, f)).snd).len ∧
 (kE (kD ks (1 : Int) !(asmZ n (notP op) (ex k m v d) (ex k2 m2 v2 d2) (e, f)).fst.fst)
 ((asmZ n op (ex k m v d) (ex k2 m2 v2 d2) (e, f)).snd.fst,
 (asmZ n op (ex k m v d) (ex k2 m2 v2 d2) (e, f)).snd.snd)).rows =
 (kE (kD ks (1 : Int) !(asmZ n (notP op) (ex k m v d) (ex k2 m2 v2 d2) (e, f)).fst.fst)
 (asmZ n op (ex k m v d) (ex k2 m2 v2 d2) (e, f)).snd).rows) (by kernel_rfl) ?_
    intro hn h0 hk
    have l1 := kD_len ks 1 (!(asmZ n (notP op) (ex k m v d) (ex k2 m2 v2 d2) (e, f)).1.1)
    (repeat' apply And.intro) <;> first | rfl | exact hn | exact h0 | omega | (intro _ _; rfl)
  · trivial
/-- Over an edge that does nothing, an assignment, an assertion, an input. -/
noncomputable def pasZ (n kind x : Int) (E : Xp) (op : Int) (L R : Xp) (z : Zs) : Zs := if kind = 0 then z else if kind = 1 then asgZ n x E z else if kind = 5 then (asmZ n op L R z).1 else metZ n x (-2147483648) 2147483647 (fgZ n x z)
noncomputable def pasK (n kind : Int) (E : Xp) (op : Int) (L R : Xp) (z : Zs) (ks : D) : D := if kind = 1 then kE ks (evaP n.toNat n z E).2 else if kind = 5 then kE (kD ks 1 (!(asmZ n (notP op) L R z).1.1)) (asmZ n op L R z).2 else ks
noncomputable def tpassS : List Dat → Option (Eff × List Seg) := fun ds => match ds with
  | .d ch :: .d gr :: .d va :: .d el :: .d df :: .i gn :: .d ge :: .d gh :: .i ed :: .b c :: .d I :: .i n :: .b e :: .f f :: .d cn :: .d ru :: .i sc :: .i sg :: .i s0 :: .i s1 :: .d ks :: [.i x0, .i x1, .i x2, .i x3, .i x4, .i x5, .i qk, .i qm, .i qv, .d qd, .i op, .i k, .i m, .i v, .d d, .i k2, .i m2, .i v2, .d d2] => some ({ val := .one (.sc (.bool (.lit true))), vc := [NumOK n c I e f, 0 < n, ks.len ≤ 900, (x2 = 0 ∨ x2 = 1 ∨ x2 = 5 ∨ x2 = 6)], nw := [(0, .orow 3 (pasK n x2 (ex qk qm qv qd) op (ex k m v d) (ex k2 m2 v2 d2) (e, f) ks))] }, [.c (.rows 73 (ch)), .c (.rows 35 (gr)), .c (.rows 3 (va)), .c (.rows 75 (el)), .c (.rows 4 (df)), .c (.int .i64 (.sym gn)), .c (.rows 31 (ge)), .c (.rows 3 (gh)), .c (.int .i64 (.sym ed)), .c (.bool (.sym (pasZ n x2 x3 (ex qk qm qv qd) op (ex k m v d) (ex k2 m2 v2 d2) (e, f) : Zs).1)), .c (.rows 53 (itD (n.toNat) (n) (pasZ n x2 x3 (ex qk qm qv qd) op (ex k m v d) (ex k2 m2 v2 d2) (e, f)))), .c (.int .i64 (.sym (n))), .c (.bool (.sym (pasZ n x2 x3 (ex qk qm qv qd) op (ex k m v d) (ex k2 m2 v2 d2) (e, f) : Zs).1)), .ints .i64 (.lit 49) (pasZ n x2 x3 (ex qk qm qv qd) op (ex k m v d) (ex k2 m2 v2 d2) (e, f) : Zs).2, .c (.rows 53 (cn)), .c (.rows 93 (ru)), .c (.int .i64 (.sym (sc))), .c (.int .i64 (.sym (sg))), .c (.int .i64 (.sym (s0))), .c (.int .i64 (.sym (s1))), .c (.osl 3 0 (.lit 0) (.sym (pasK n x2 (ex qk qm qv qd) op (ex k m v d) (ex k2 m2 v2 d2) (e, f) ks).len))])
  | _ => none
noncomputable def tpassC : Con := conM 101 [.c (.rows 73), .c (.rows 35), .c (.rows 3), .c (.rows 75), .c (.rows 4), .c (.int .i64), .c (.rows 31), .c (.rows 3), .c (.int .i64), .c .bool, .c (.rows 53), .c (.int .i64), .c .bool, .ints .i64 49, .c (.rows 53), .c (.rows 93), .c (.int .i64), .c (.int .i64), .c (.int .i64), .c (.int .i64), .own 3] [edgeA] tpassS
theorem tpass_ok : ConOK Tryz.prog 32 tpassC := by
  refine fn_obM tt_ok mixed Tryz.func32 rfl (fun _ _ => by kernel_rfl) (A := fun ds => ⟨fun _ => Cons.of [(60, assignC), (61, ttellEC), (63, tassertC), (26, nsetC), (19, iallC)], fun _ => none, fun _ => none⟩) (fun _ _ => (cons_cons assign_ok (cons_cons ttellE_ok (cons_cons tassert_ok (cons_cons nset_ok (cons_cons iall_ok cons_nil)))))) (by kernel_rfl) ?_
  intro ds
  unfold tpassS
  split
  · rename_i ch gr va el df gn ge gh ed c I n e f cn ru sc sg s0 s1 ks x0 x1 x2 x3 x4 x5 qk qm qv qd op k m v d k2 m2 v2 d2
    refine kmp (q := NumOK n c I e f →
 (0 : Int) < n →
 ks.len ≤ (900 : Nat) →
 x2 = (0 : Int) ∨ x2 = (1 : Int) ∨ x2 = (5 : Int) ∨ x2 = (6 : Int) →
 ((x2 == (0 : Int)) = true →
 true = true ∧
 ch.rows = ch.rows ∧
 gr.rows = gr.rows ∧
 va.rows = va.rows ∧
 el.rows = el.rows ∧
 df.rows = df.rows ∧
 gn = gn ∧
 ge.rows = ge.rows ∧
 gh.rows = gh.rows ∧
 ed = ed ∧
 c = (pasZ n x2 x3 (ex qk qm qv qd) op (ex k m v d) (ex k2 m2 v2 d2) (e, f)).fst ∧
 I.rows =
 List.map
 (fun (j : Nat) =>
 [D.i
 (itvLo n (pasZ n x2 x3 (ex qk qm qv qd) op (ex k m v d) (ex k2 m2 v2 d2) (e, f)).fst
 (pasZ n x2 x3 (ex qk qm qv qd) op (ex k m v d) (ex k2 m2 v2 d2) (e, f)).snd (↑j : Int)),
 D.i
 (itvHi n (pasZ n x2 x3 (ex qk qm qv qd) op (ex k m v d) (ex k2 m2 v2 d2) (e, f)).fst
 (pasZ n x2 x3 (ex qk qm qv qd) op (ex k m v d) (ex k2 m2 v2 d2) (e, f)).snd (↑j : Int))])
 (List.range n.toNat) ∧
 n = n ∧
 e = (pasZ n x2 x3 (ex qk qm qv qd) op (ex k m v d) (ex k2 m2 v2 d2) (e, f)).fst ∧
 (∀ (o : Nat), o < nat_lit 49 → f o = (pasZ n x2 x3 (ex qk qm qv qd) op (ex k m v d) (ex k2 m2 v2 d2) (e, f)).snd o) ∧
 cn.rows = cn.rows ∧
 ru.rows = ru.rows ∧
 sc = sc ∧
 sg = sg ∧
 s0 = s0 ∧
 s1 = s1 ∧
 ks.len = (pasK n x2 (ex qk qm qv qd) op (ex k m v d) (ex k2 m2 v2 d2) (e, f) ks).len ∧
 ks.rows = (pasK n x2 (ex qk qm qv qd) op (ex k m v d) (ex k2 m2 v2 d2) (e, f) ks).rows) ∧
 ((x2 == (0 : Int)) = false →
 ((x2 == (1 : Int)) = true →
 NumOK n c I e f ∧
 nat_lit 0 = (0 : Nat) ∧
 ks.len = ks.len ∧
 ks.len ≤ (998 : Nat) ∧
 true = true ∧
 ch.rows = ch.rows ∧
 gr.rows = gr.rows ∧
 va.rows = va.rows ∧
 el.rows = el.rows ∧
 df.rows = df.rows ∧
 gn = gn ∧
 ge.rows = ge.rows ∧
 gh.rows = gh.rows ∧
 ed = ed ∧
 (asgZ n x3 (ex qk qm qv qd) (e, f)).fst =
 (pasZ n x2 x3 (ex qk qm qv qd) op (ex k m v d) (ex k2 m2 v2 d2) (e, f)).fst ∧
 List.map
 (fun (j : Nat) =>
 [D.i (itvLo n (asgZ n x3 (ex qk qm qv qd) (e, f)).fst (asgZ n x3 (ex qk qm qv qd) (e, f)).snd (↑j : Int)),
 D.i
 (itvHi n (asgZ n x3 (ex qk qm qv qd) (e, f)).fst (asgZ n x3 (ex qk qm qv qd) (e, f)).snd (↑j : Int))])
 (List.range n.toNat) =
 List.map
 (fun (j : Nat) =>
 [D.i
 (itvLo n (pasZ n x2 x3 (ex qk qm qv qd) op (ex k m v d) (ex k2 m2 v2 d2) (e, f)).fst
 (pasZ n x2 x3 (ex qk qm qv qd) op (ex k m v d) (ex k2 m2 v2 d2) (e, f)).snd (↑j : Int)),
 D.i
 (itvHi n (pasZ n x2 x3 (ex qk qm qv qd) op (ex k m v d) (ex k2 m2 v2 d2) (e, f)).fst
 (pasZ n x2 x3 (ex qk qm qv qd) op (ex k m v d) (ex k2 m2 v2 d2) (e, f)).snd (↑j : Int))])
 (List.range n.toNat) ∧
 n = n ∧
 (asgZ n x3 (ex qk qm qv qd) (e, f)).fst =
 (pasZ n x2 x3 (ex qk qm qv qd) op (ex k m v d) (ex k2 m2 v2 d2) (e, f)).fst ∧
 (∀ (o : Nat),
 o < nat_lit 49 →
 (asgZ n x3 (ex qk qm qv qd) (e, f)).snd o =
 (pasZ n x2 x3 (ex qk qm qv qd) op (ex k m v d) (ex k2 m2 v2 d2) (e, f)).snd o) ∧
 cn.rows = cn.rows ∧
 ru.rows = ru.rows ∧
 sc = sc ∧
 sg = sg ∧
 s0 = s0 ∧
 s1 = s1 ∧
 (kE ks
 ((evaP n.toNat n (e, f) (ex qk qm qv qd)).snd.fst,
 (evaP n.toNat n (e, f) (ex qk qm qv qd)).snd.snd)).len =
 (pasK n x2 (ex qk qm qv qd) op (ex k m v d) (ex k2 m2 v2 d2) (e, f) ks).len ∧
 (kE ks
 ((evaP n.toNat n (e, f) (ex qk qm qv qd)).snd.fst,
 (evaP n.toNat n (e, f) (ex qk qm qv qd)).snd.snd)).rows =
 (pasK n x2 (ex qk qm qv qd) op (ex k m v d) (ex k2 m2 v2 d2) (e, f) ks).rows) ∧
 ((x2 == (1 : Int)) = false →
 ((x2 == (2 : Int)) = true → False) ∧
 ((x2 == (2 : Int)) = false →
 ((x2 == (5 : Int)) = true →
 nat_lit 0 = (0 : Nat) ∧
 ks.len = ks.len ∧
 NumOK n c I e f ∧
 (0 : Int) < n ∧
 ks.len ≤ (900 : Nat) ∧
 true = true ∧
 ch.rows = ch.rows ∧
 gr.rows = gr.rows ∧
 va.rows = va.rows ∧
 el.rows = el.rows ∧
 df.rows = df.rows ∧
 gn = gn ∧
 ge.rows = ge.rows ∧
 gh.rows = gh.rows ∧
 ed = ed ∧
 (asmZ n op (ex k m v d) (ex k2 m2 v2 d2) (e, f)).fst.fst =
 (pasZ n x2 x3 (ex qk qm qv qd) op (ex k m v d) (ex k2 m2 v2 d2) (e, f)).fst ∧
 List.map
 (fun (j : Nat) =>
 [D.i
 (itvLo n (asmZ n op (ex k m v d) (ex k2 m2 v2 d2) (e, f)).fst.fst
 (asmZ n op (ex k m v d) (ex k2 m2 v2 d2) (e, f)).fst.snd (↑j : Int)),
 D.i
 (itvHi n (asmZ n op (ex k m v d) (ex k2 m2 v2 d2) (e, f)).fst.fst
 (asmZ n op (ex k m v d) (ex k2 m2 v2 d2) (e, f)).fst.snd (↑j : Int))])
 (List.range n.toNat) =
 List.map
 (fun (j : Nat) =>
 [D.i
 (itvLo n (pasZ n x2 x3 (ex qk qm qv qd) op (ex k m v d) (ex k2 m2 v2 d2) (e, f)).fst
 (pasZ n x2 x3 (ex qk qm qv qd) op (ex k m v d) (ex k2 m2 v2 d2) (e, f)).snd (↑j : Int)),
 D.i
 (itvHi n (pasZ n x2 x3 (ex qk qm qv qd) op (ex k m v d) (ex k2 m2 v2 d2) (e, f)).fst
 (pasZ n x2 x3 (ex qk qm qv qd) op (ex k m v d) (ex k2 m2 v2 d2) (e, f)).snd (↑j : Int))])
 (List.range n.toNat) ∧
 n = n ∧
 (asmZ n op (ex k m v d) (ex k2 m2 v2 d2) (e, f)).fst.fst =
 (pasZ n x2 x3 (ex qk qm qv qd) op (ex k m v d) (ex k2 m2 v2 d2) (e, f)).fst ∧
 (∀ (o : Nat),
 o < nat_lit 49 →
 (asmZ n op (ex k m v d) (ex k2 m2 v2 d2) (e, f)).fst.snd o =
 (pasZ n x2 x3 (ex qk qm qv qd) op (ex k m v d) (ex k2 m2 v2 d2) (e, f)).snd o) ∧
 cn.rows = cn.rows ∧
 ru.rows = ru.rows ∧
 sc = sc ∧
 sg = sg ∧
 s0 = s0 ∧
 s1 = s1 ∧
 (kE
 (kD ks (1 : Int)
 !(asmZ n (notP op) (ex k m v d) (ex k2 m2 v2 d2) (e, f)).fst.fst)
 (asmZ n op (ex k m v d) (ex k2 m2 v2 d2) (e, f)).snd).len =
 (pasK n x2 (ex qk qm qv qd) op (ex k m v d) (ex k2 m2 v2 d2) (e, f) ks).len ∧
 (kE
 (kD ks (1 : Int)
 !(asmZ n (notP op) (ex k m v d) (ex k2 m2 v2 d2) (e, f)).fst.fst)
 (asmZ n op (ex k m v d) (ex k2 m2 v2 d2) (e, f)).snd).rows =
 (pasK n x2 (ex qk qm qv qd) op (ex k m v d) (ex k2 m2 v2 d2) (e, f) ks).rows) ∧
 ((x2 == (5 : Int)) = false →
 ((x2 == (6 : Int)) = true →
 Good n (e, f) ∧
 I.len ≤ (1000 : Nat) ∧
 true = true ∧
 ch.rows = ch.rows ∧
 gr.rows = gr.rows ∧
 va.rows = va.rows ∧
 el.rows = el.rows ∧
 df.rows = df.rows ∧
 gn = gn ∧
 ge.rows = ge.rows ∧
 gh.rows = gh.rows ∧
 ed = ed ∧
 (metZ n x3 (-2147483648 : Int) (2147483647 : Int) (fgZ n x3 (e, f))).fst =
 (pasZ n x2 x3 (ex qk qm qv qd) op (ex k m v d) (ex k2 m2 v2 d2) (e, f)).fst ∧
 List.map
 (fun (j : Nat) =>
 [D.i
 (itvLo n (metZ n x3 (-2147483648 : Int) (2147483647 : Int) (fgZ n x3 (e, f))).fst
 (metZ n x3 (-2147483648 : Int) (2147483647 : Int) (fgZ n x3 (e, f))).snd (↑j : Int)),
 D.i
 (itvHi n (metZ n x3 (-2147483648 : Int) (2147483647 : Int) (fgZ n x3 (e, f))).fst
 (metZ n x3 (-2147483648 : Int) (2147483647 : Int) (fgZ n x3 (e, f))).snd (↑j : Int))])
 (List.range I.len) =
 List.map
 (fun (j : Nat) =>
 [D.i
 (itvLo n (pasZ n x2 x3 (ex qk qm qv qd) op (ex k m v d) (ex k2 m2 v2 d2) (e, f)).fst
 (pasZ n x2 x3 (ex qk qm qv qd) op (ex k m v d) (ex k2 m2 v2 d2) (e, f)).snd (↑j : Int)),
 D.i
 (itvHi n (pasZ n x2 x3 (ex qk qm qv qd) op (ex k m v d) (ex k2 m2 v2 d2) (e, f)).fst
 (pasZ n x2 x3 (ex qk qm qv qd) op (ex k m v d) (ex k2 m2 v2 d2) (e, f)).snd (↑j : Int))])
 (List.range n.toNat) ∧
 n = n ∧
 (metZ n x3 (-2147483648 : Int) (2147483647 : Int) (fgZ n x3 (e, f))).fst =
 (pasZ n x2 x3 (ex qk qm qv qd) op (ex k m v d) (ex k2 m2 v2 d2) (e, f)).fst ∧
 (∀ (o : Nat),
 o < nat_lit 49 →
 (metZ n x3 (-2147483648 : Int) (2147483647 : Int) (fgZ n x3 (e, f))).snd o =
 (pasZ n x2 x3 (ex qk qm qv qd) op (ex k m v d) (ex k2 m2 v2 d2) (e, f)).snd o) ∧
 cn.rows = cn.rows ∧
 ru.rows = ru.rows ∧
 sc = sc ∧
 sg = sg ∧
 s0 = s0 ∧
 s1 = s1 ∧
 ks.len = (pasK n x2 (ex qk qm qv qd) op (ex k m v d) (ex k2 m2 v2 d2) (e, f) ks).len ∧
 ks.rows =
 (pasK n x2 (ex qk qm qv qd) op (ex k m v d) (ex k2 m2 v2 d2) (e, f) ks).rows) ∧
 ((x2 == (6 : Int)) = false →
 ((x2 == (3 : Int)) = true → False) ∧
 ((x2 == (3 : Int)) = false →
 ((x2 == (4 : Int)) = true → False) ∧
 ((x2 == (4 : Int)) = false →
 false = true ∧
 ch.rows = ch.rows ∧
 gr.rows = gr.rows ∧
 va.rows = va.rows ∧
 el.rows = el.rows ∧
 df.rows = df.rows ∧
 gn = gn ∧
 ge.rows = ge.rows ∧
 gh.rows = gh.rows ∧
 ed = ed ∧
 c = (pasZ n x2 x3 (ex qk qm qv qd) op (ex k m v d) (ex k2 m2 v2 d2) (e, f)).fst ∧
 I.rows =
 List.map
 (fun (j : Nat) =>
 [D.i
 (itvLo n (pasZ n x2 x3 (ex qk qm qv qd) op (ex k m v d) (ex k2 m2 v2 d2) (e, f)).fst
 (pasZ n x2 x3 (ex qk qm qv qd) op (ex k m v d) (ex k2 m2 v2 d2) (e, f)).snd (↑j : Int)),
 D.i
 (itvHi n (pasZ n x2 x3 (ex qk qm qv qd) op (ex k m v d) (ex k2 m2 v2 d2) (e, f)).fst
 (pasZ n x2 x3 (ex qk qm qv qd) op (ex k m v d) (ex k2 m2 v2 d2) (e, f)).snd
 (↑j : Int))])
 (List.range n.toNat) ∧
 n = n ∧
 e = (pasZ n x2 x3 (ex qk qm qv qd) op (ex k m v d) (ex k2 m2 v2 d2) (e, f)).fst ∧
 (∀ (o : Nat),
 o < nat_lit 49 →
 f o = (pasZ n x2 x3 (ex qk qm qv qd) op (ex k m v d) (ex k2 m2 v2 d2) (e, f)).snd o) ∧
 cn.rows = cn.rows ∧
 ru.rows = ru.rows ∧
 sc = sc ∧
 sg = sg ∧
 s0 = s0 ∧
 s1 = s1 ∧
 ks.len =
 (pasK n x2 (ex qk qm qv qd) op (ex k m v d) (ex k2 m2 v2 d2) (e, f) ks).len ∧
 ks.rows =
 (pasK n x2 (ex qk qm qv qd) op (ex k m v d) (ex k2 m2 v2 d2) (e, f)
 ks).rows)))))))) (by kernel_rfl) ?_
    intro hn h0 hk hx
    have hl := hn.len
    have hr : I.rows = (itD n.toNat n (e, f)).rows := hn.rows
    have hc := hn.c
    rcases hx with rfl | rfl | rfl | rfl
    · refine ⟨fun _ => ?_, fun h => absurd h (by decide)⟩
      have p1 : pasZ n 0 x3 (ex qk qm qv qd) op (ex k m v d) (ex k2 m2 v2 d2) (e, f) = (e, f) := rfl
      have p2 : pasK n 0 (ex qk qm qv qd) op (ex k m v d) (ex k2 m2 v2 d2) (e, f) ks = ks := rfl
      rw [p1, p2]
      (repeat' apply And.intro) <;> first | rfl | exact hc | exact hr | (intro _ _; rfl)
    · refine ⟨fun h => absurd h (by decide), fun _ => ⟨fun _ => ?_, fun h => absurd h (by decide)⟩⟩
      have p1 : pasZ n 1 x3 (ex qk qm qv qd) op (ex k m v d) (ex k2 m2 v2 d2) (e, f) = asgZ n x3 (ex qk qm qv qd) (e, f) := rfl
      have p2 : pasK n 1 (ex qk qm qv qd) op (ex k m v d) (ex k2 m2 v2 d2) (e, f) ks = kE ks (evaP n.toNat n (e, f) (ex qk qm qv qd)).2 := rfl
      rw [p1, p2]
      (repeat' apply And.intro) <;> first | rfl | exact hn | omega | (intro _ _; rfl)
    · refine ⟨fun h => absurd h (by decide), fun _ => ⟨fun h => absurd h (by decide), fun _ => ⟨fun h => absurd h (by decide), fun _ => ⟨fun _ => ?_, fun h => absurd h (by decide)⟩⟩⟩⟩
      have p1 : pasZ n 5 x3 (ex qk qm qv qd) op (ex k m v d) (ex k2 m2 v2 d2) (e, f) = (asmZ n op (ex k m v d) (ex k2 m2 v2 d2) (e, f)).1 := rfl
      have p2 : pasK n 5 (ex qk qm qv qd) op (ex k m v d) (ex k2 m2 v2 d2) (e, f) ks = kE (kD ks 1 (!(asmZ n (notP op) (ex k m v d) (ex k2 m2 v2 d2) (e, f)).1.1)) (asmZ n op (ex k m v d) (ex k2 m2 v2 d2) (e, f)).2 := rfl
      rw [p1, p2]
      (repeat' apply And.intro) <;> first | rfl | exact hn | exact h0 | exact hk | (intro _ _; rfl)
    · refine ⟨fun h => absurd h (by decide), fun _ => ⟨fun h => absurd h (by decide), fun _ => ⟨fun h => absurd h (by decide), fun _ => ⟨fun h => absurd h (by decide), fun _ => ⟨fun _ => ?_, fun h => absurd h (by decide)⟩⟩⟩⟩⟩
      have p1 : pasZ n 6 x3 (ex qk qm qv qd) op (ex k m v d) (ex k2 m2 v2 d2) (e, f) = metZ n x3 (-2147483648) 2147483647 (fgZ n x3 (e, f)) := rfl
      have p2 : pasK n 6 (ex qk qm qv qd) op (ex k m v d) (ex k2 m2 v2 d2) (e, f) ks = ks := rfl
      rw [p1, p2, hl]
      (repeat' apply And.intro) <;> first | rfl | exact hn.good | (have := hn.le; omega) | (intro _ _; rfl)
  · trivial
end Go.Proofs.YtlgmofjjjhbgkaaGreat.Sx.Z
namespace Go.Proofs.YtlgmofjjjhbgkaaGreat.Sx.Z
open Go.RowKit
def tabL : ByteArray := ⟨((0 : UInt8) :: 1 :: 2 :: 2 :: (List.replicate 4 3 ++ List.replicate 8 4 ++ List.replicate 16 5 ++ List.replicate 32 6 ++ List.replicate 64 7 ++ List.replicate 128 8)).toArray⟩
noncomputable def blen64S : FSpec := fun ds _ => match ds with
  | [.i x] => some { val := .one (.sc (.int .i64 (.sym x))), vc := [0 ≤ x ∧ x ≤ 1] }
  | _ => none
noncomputable def blen64C : Con := con [.sc (.int .u64)] blen64S
theorem blen64_ok : ConOK Tryz.prog 101 blen64C := by
  refine fn_ob tt_ok mixed Tryz.func101 rfl (fun _ _ => by kernel_rfl) (A := fun ds => ⟨fun _ => Cons.of [], fun _ => none, fun _ => none⟩) (fun _ _ => cons_nil) (by kernel_rfl) ?_
  intro ds fr
  unfold blen64S
  split
  · rename_i x
    refine kmp (q := (0 : Int) ≤ x ∧ x ≤ (1 : Int) →
 (decide (x ≥ (4294967296 : Int)) = true →
 (decide (x.fdiv ((2 : Int) ^ min (Int.toNat (32 : Int)) IntKind.u64.bits) ≥ (65536 : Int)) = true →
 (decide
 ((x.fdiv ((2 : Int) ^ min (Int.toNat (32 : Int)) IntKind.u64.bits)).fdiv ((2 : Int) ^ min (Int.toNat (16 : Int)) IntKind.u64.bits) ≥
 (256 : Int)) =
 true →
 ((0 : Int) ≤
 IntKind.u8.wrap
 (((x.fdiv ((2 : Int) ^ min (Int.toNat (32 : Int)) IntKind.u64.bits)).fdiv ((2 : Int) ^ min (Int.toNat (16 : Int)) IntKind.u64.bits)).fdiv
 ((2 : Int) ^ min (Int.toNat (8 : Int)) IntKind.u64.bits)) ∧
 IntKind.u8.wrap
 (((x.fdiv ((2 : Int) ^ min (Int.toNat (32 : Int)) IntKind.u64.bits)).fdiv ((2 : Int) ^ min (Int.toNat (16 : Int)) IntKind.u64.bits)).fdiv
 ((2 : Int) ^ min (Int.toNat (8 : Int)) IntKind.u64.bits)) <
 (↑tabL.size :
 Int)) ∧
 IntKind.i64.wrap
 (IntKind.i64.wrap (IntKind.i64.wrap ((32 : Int) + (16 : Int)) + (8 : Int)) +
 IntKind.i64.wrap
 (↑(tabL[(IntKind.u8.wrap
 (((x.fdiv ((2 : Int) ^ min (Int.toNat (32 : Int)) IntKind.u64.bits)).fdiv
 ((2 : Int) ^ min (Int.toNat (16 : Int)) IntKind.u64.bits)).fdiv
 ((2 : Int) ^ min (Int.toNat (8 : Int)) IntKind.u64.bits))).toNat]?.getD
 (0 : UInt8)).toNat :
 Int)) =
 x) ∧
 (decide
 ((x.fdiv ((2 : Int) ^ min (Int.toNat (32 : Int)) IntKind.u64.bits)).fdiv ((2 : Int) ^ min (Int.toNat (16 : Int)) IntKind.u64.bits) ≥
 (256 : Int)) =
 false →
 ((0 : Int) ≤
 IntKind.u8.wrap
 ((x.fdiv ((2 : Int) ^ min (Int.toNat (32 : Int)) IntKind.u64.bits)).fdiv ((2 : Int) ^ min (Int.toNat (16 : Int)) IntKind.u64.bits)) ∧
 IntKind.u8.wrap
 ((x.fdiv ((2 : Int) ^ min (Int.toNat (32 : Int)) IntKind.u64.bits)).fdiv ((2 : Int) ^ min (Int.toNat (16 : Int)) IntKind.u64.bits)) <
 (↑tabL.size :
 Int)) ∧
 IntKind.i64.wrap
 (IntKind.i64.wrap ((32 : Int) + (16 : Int)) +
 IntKind.i64.wrap
 (↑(tabL[(IntKind.u8.wrap
 ((x.fdiv ((2 : Int) ^ min (Int.toNat (32 : Int)) IntKind.u64.bits)).fdiv
 ((2 : Int) ^ min (Int.toNat (16 : Int)) IntKind.u64.bits))).toNat]?.getD
 (0 : UInt8)).toNat :
 Int)) =
 x)) ∧
 (decide (x.fdiv ((2 : Int) ^ min (Int.toNat (32 : Int)) IntKind.u64.bits) ≥ (65536 : Int)) = false →
 (decide (x.fdiv ((2 : Int) ^ min (Int.toNat (32 : Int)) IntKind.u64.bits) ≥ (256 : Int)) = true →
 ((0 : Int) ≤
 IntKind.u8.wrap
 ((x.fdiv ((2 : Int) ^ min (Int.toNat (32 : Int)) IntKind.u64.bits)).fdiv ((2 : Int) ^ min (Int.toNat (8 : Int)) IntKind.u64.bits)) ∧
 IntKind.u8.wrap
 ((x.fdiv ((2 : Int) ^ min (Int.toNat (32 : Int)) IntKind.u64.bits)).fdiv ((2 : Int) ^ min (Int.toNat (8 : Int)) IntKind.u64.bits)) <
 (↑tabL.size :
 Int)) ∧
 IntKind.i64.wrap
 (IntKind.i64.wrap ((32 : Int) + (8 : Int)) +
 IntKind.i64.wrap
 (↑(tabL[(IntKind.u8.wrap
 ((x.fdiv ((2 : Int) ^ min (Int.toNat (32 : Int)) IntKind.u64.bits)).fdiv
 ((2 : Int) ^ min (Int.toNat (8 : Int)) IntKind.u64.bits))).toNat]?.getD
 (0 : UInt8)).toNat :
 Int)) =
 x) ∧
 (decide (x.fdiv ((2 : Int) ^ min (Int.toNat (32 : Int)) IntKind.u64.bits) ≥ (256 : Int)) = false →
 ((0 : Int) ≤ IntKind.u8.wrap (x.fdiv ((2 : Int) ^ min (Int.toNat (32 : Int)) IntKind.u64.bits)) ∧
 IntKind.u8.wrap (x.fdiv ((2 : Int) ^ min (Int.toNat (32 : Int)) IntKind.u64.bits)) <
 (↑tabL.size :
 Int)) ∧
 IntKind.i64.wrap
 ((32 : Int) +
 IntKind.i64.wrap
 (↑(tabL[(IntKind.u8.wrap
 (x.fdiv ((2 : Int) ^ min (Int.toNat (32 : Int)) IntKind.u64.bits))).toNat]?.getD
 (0 : UInt8)).toNat :
 Int)) =
 x))) ∧
 (decide (x ≥ (4294967296 : Int)) = false →
 (decide (x ≥ (65536 : Int)) = true →
 (decide (x.fdiv ((2 : Int) ^ min (Int.toNat (16 : Int)) IntKind.u64.bits) ≥ (256 : Int)) = true →
 ((0 : Int) ≤
 IntKind.u8.wrap
 ((x.fdiv ((2 : Int) ^ min (Int.toNat (16 : Int)) IntKind.u64.bits)).fdiv ((2 : Int) ^ min (Int.toNat (8 : Int)) IntKind.u64.bits)) ∧
 IntKind.u8.wrap
 ((x.fdiv ((2 : Int) ^ min (Int.toNat (16 : Int)) IntKind.u64.bits)).fdiv ((2 : Int) ^ min (Int.toNat (8 : Int)) IntKind.u64.bits)) <
 (↑tabL.size :
 Int)) ∧
 IntKind.i64.wrap
 (IntKind.i64.wrap (IntKind.i64.wrap ((0 : Int) + (16 : Int)) + (8 : Int)) +
 IntKind.i64.wrap
 (↑(tabL[(IntKind.u8.wrap
 ((x.fdiv ((2 : Int) ^ min (Int.toNat (16 : Int)) IntKind.u64.bits)).fdiv
 ((2 : Int) ^ min (Int.toNat (8 : Int)) IntKind.u64.bits))).toNat]?.getD
 (0 : UInt8)).toNat :
 Int)) =
 x) ∧
 (decide (x.fdiv ((2 : Int) ^ min (Int.toNat (16 : Int)) IntKind.u64.bits) ≥ (256 : Int)) = false →
 ((0 : Int) ≤ IntKind.u8.wrap (x.fdiv ((2 : Int) ^ min (Int.toNat (16 : Int)) IntKind.u64.bits)) ∧
 IntKind.u8.wrap (x.fdiv ((2 : Int) ^ min (Int.toNat (16 : Int)) IntKind.u64.bits)) <
 (↑tabL.size :
 Int)) ∧
 IntKind.i64.wrap
 (IntKind.i64.wrap ((0 : Int) + (16 : Int)) +
 IntKind.i64.wrap
 (↑(tabL[(IntKind.u8.wrap
 (x.fdiv ((2 : Int) ^ min (Int.toNat (16 : Int)) IntKind.u64.bits))).toNat]?.getD
 (0 : UInt8)).toNat :
 Int)) =
 x)) ∧
 (decide (x ≥ (65536 : Int)) = false →
 (decide (x ≥ (256 : Int)) = true →
 ((0 : Int) ≤ IntKind.u8.wrap (x.fdiv ((2 : Int) ^ min (Int.toNat (8 : Int)) IntKind.u64.bits)) ∧
 IntKind.u8.wrap (x.fdiv ((2 : Int) ^ min (Int.toNat (8 : Int)) IntKind.u64.bits)) <
 (↑tabL.size :
 Int)) ∧
 IntKind.i64.wrap
 (IntKind.i64.wrap ((0 : Int) + (8 : Int)) +
 IntKind.i64.wrap
 (↑(tabL[(IntKind.u8.wrap
 (x.fdiv ((2 : Int) ^ min (Int.toNat (8 : Int)) IntKind.u64.bits))).toNat]?.getD
 (0 : UInt8)).toNat :
 Int)) =
 x) ∧
 (decide (x ≥ (256 : Int)) = false →
 ((0 : Int) ≤ IntKind.u8.wrap x ∧
 IntKind.u8.wrap x <
 (↑tabL.size :
 Int)) ∧
 IntKind.i64.wrap
 ((0 : Int) +
 IntKind.i64.wrap
 (↑(tabL[(IntKind.u8.wrap x).toNat]?.getD
 (0 : UInt8)).toNat :
 Int)) =
 x)))) (by kernel_rfl) ?_
    rintro ⟨h0, h1⟩
    have hx : x = 0 ∨ x = 1 := by omega
    rcases hx with rfl | rfl <;> exact ⟨fun h => absurd h (by decide +kernel), fun _ => ⟨fun h => absurd h (by decide +kernel), fun _ => ⟨fun h => absurd h (by decide +kernel), fun _ => ⟨by decide +kernel, by decide +kernel⟩⟩⟩⟩
  · trivial
end Go.Proofs.YtlgmofjjjhbgkaaGreat.Sx.Z
namespace Go.Proofs.YtlgmofjjjhbgkaaGreat
open Go.RowKit
/-- The cells of a row of Itvs. -/
def cellsOf (xs : List (Int × Int)) : List Value := xs.flatMap fun p => [.int .i64 p.1, .int .i64 p.2]
end Go.Proofs.YtlgmofjjjhbgkaaGreat
namespace Go.Proofs.YtlgmofjjjhbgkaaGreat.Sx.Z
open Go.RowKit
def ofS (n : Int) : Int := IntKind.u8.wrap (1 * 2 ^ min n.toNat 8)
noncomputable def rofS : FSpec := fun ds _ => match ds with
  | [.i n] => some { val := .one (.sc (.int .u8 (.sym (ofS n)))), vc := [0 ≤ n ∧ n < 8] }
  | _ => none
noncomputable def rofC : Con := con [iA] rofS
theorem rof_ok : ConOK Tryz.prog 54 rofC := by
  refine fn_ob tt_ok mixed Tryz.func54 rfl (fun _ _ => by kernel_rfl) (A := fun ds => ⟨fun _ => Cons.of [], fun _ => none, fun _ => none⟩) (fun _ _ => cons_nil) (by kernel_rfl) ?_
  intro ds fr
  unfold rofS
  split
  · rename_i n
    refine kmp (q := (0 : Int) ≤ n ∧ n < (8 : Int) → ¬n < (0 : Int) ∧ IntKind.u8.wrap ((1 : Int) * (2 : Int) ^ min n.toNat IntKind.u8.bits) = ofS n) (by kernel_rfl) ?_
    intro hn
    exact ⟨by omega, rfl⟩
  · trivial
noncomputable def rstartS : FSpec := fun ds _ => match ds with
  | [] => some { val := .one (.sc (.int .u8 (.lit 1))), vc := [] }
  | _ => none
noncomputable def rstartC : Con := con [] rstartS
theorem rstart_ok : ConOK Tryz.prog 25 rstartC := by
  refine fn_ob tt_ok mixed Tryz.func25 rfl (fun _ _ => by kernel_rfl) (A := fun ds => ⟨fun _ => Cons.of [(54, rofC)], fun _ => none, fun _ => none⟩) (fun _ _ => (cons_cons rof_ok cons_nil)) (by kernel_rfl) ?_
  intro ds fr
  unfold rstartS
  split
  · skip
    refine kmp (q := ((0 : Int) ≤ (0 : Int) ∧ (0 : Int) < (8 : Int)) ∧ ofS (0 : Int) = (1 : Int)) (by kernel_rfl) ?_
    exact ⟨by omega, rfl⟩
  · trivial
end Go.Proofs.YtlgmofjjjhbgkaaGreat.Sx.Z
