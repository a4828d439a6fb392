/-
  eval.Eval, Assign, Assume.
-/
import Derived.Test.YtbcbcambkjhhhaaProg
import Derived.Test.YtbcbcambkjhhhaaChecked
import Derived.Laws.Bits64
import Derived.ChangeArms
import Derived.OpenShut
import Derived.WideShapes
import Derived.ChangeShapes
import Derived.Carry
import Derived.DataReads
import Derived.KernelRfl
import Derived.Deep.LoopGhost
import Derived.Laws.Append
import Derived.Laws.AppendOwn
import Derived.Laws.MakeOwn
import Derived.Laws.StructEq
import Derived.Laws.Cells
import Derived.Laws.CopyRow
import Derived.Laws.Rows
import Derived.Below
import Derived.Orders
import Derived.ChangeKeysEq
import Derived.IntWalk
import Derived.Deep.CutRange
import Derived.WalkKit
import Derived.ProofKit
import Derived.Handy
import Derived.Lib.Hide
import Derived.Deep.WholeRow
import Derived.Deep.Cut
import Derived.Deep.RegionHeld3
import Derived.RegionTactic
import Derived.Test.YtbcbcambkjhhhaaMA
import Derived.Test.YtbcbcambkjhhhaaMB
import Derived.Test.YtbcbcambkjhhhaaMC
import Derived.Test.YtbcbcambkjhhhaaMD
import Derived.Test.YtbcbcambkjhhhaaME
import Derived.Test.YtbcbcambkjhhhaaMF
import Derived.Test.YtbcbcambkjhhhaaMG
import Derived.Test.YtbcbcambkjhhhaaMH
import Derived.Test.YtbcbcambkjhhhaaMI
import Derived.Test.YtbcbcambkjhhhaaMJ
import Derived.Test.YtbcbcambkjhhhaaMK
import Derived.Test.YtbcbcambkjhhhaaML
import Derived.Test.YtbcbcambkjhhhaaMM
import Derived.Test.YtbcbcambkjhhhaaMj1
import Derived.Test.YtbcbcambkjhhhaaMN
import Derived.Test.YtbcbcambkjhhhaaMO
import Derived.Test.YtbcbcambkjhhhaaMP
import Derived.Test.YtbcbcambkjhhhaaMQ
import Derived.Test.YtbcbcambkjhhhaaMR
import Derived.Test.YtbcbcambkjhhhaaMU
import Derived.Test.YtbcbcambkjhhhaaMV
import Derived.Test.YtbcbcambkjhhhaaMX
namespace Go.Proofs.Ytbcbcambkjhhhaa.Sx.Z
open Go.RowKit
theorem lin_in : ∀ {e : Xp} {x n : Int}, linP e = some (x, n) → -1099511627776 ≤ n ∧ n ≤ 1099511627776 := by
  have am : ∀ {a b x n : Int}, amtP a b = some (x, n) → -1099511627776 ≤ n ∧ n ≤ 1099511627776 := fun {a b x n} h => by
    unfold amtP at h
    split at h
    · cases h
    · obtain ⟨rfl, rfl⟩ := Prod.mk.inj (Option.some.inj h); omega
  have cm : ∀ {k x n : Int} {l r}, combP k l r = some (x, n) → -1099511627776 ≤ n ∧ n ≤ 1099511627776 := fun {k x n l r} h => by
    rcases l with _ | ⟨u, a⟩
    · cases h
    · rcases r with _ | ⟨v, b⟩
      · cases h
      · rw [comb_some] at h
        split at h
        · exact am h
        · split at h
          · exact am h
          · split at h
            · exact am h
            · cases h
  have vr : ∀ {v x n : Int}, some (v, (0 : Int)) = some (x, n) → -1099511627776 ≤ n ∧ n ≤ 1099511627776 := fun h => by
    obtain ⟨rfl, rfl⟩ := Prod.mk.inj (Option.some.inj h); omega
  intro e x n h
  match e with
  | .mk k m v [a, b] =>
    rw [linP] at h
    split at h
    · exact am h
    · split at h
      · exact vr h
      · split at h
        · exact cm h
        · cases h
  | .mk k m v [] =>
    rw [linP.eq_2 _ _ _ _ (fun a b h => by cases h)] at h
    split at h
    · exact am h
    · split at h
      · exact vr h
      · split at h <;> cases h
  | .mk k m v [a] =>
    rw [linP.eq_2 _ _ _ _ (fun a b h => by cases h)] at h
    split at h
    · exact am h
    · split at h
      · exact vr h
      · split at h <;> cases h
  | .mk k m v (a :: b :: c :: r) =>
    rw [linP.eq_2 _ _ _ _ (fun a b h => by cases h)] at h
    split at h
    · exact am h
    · split at h
      · exact vr h
      · split at h <;> cases h
noncomputable def evaP (m : Nat) (n : Int) (z : Zs) (e : Xp) : IE := if z.1 = true then noE else recP (itD m n z) e
def asgR (n x : Int) (l : Option (Int × Int)) (i : Int × Int) (z : Zs) : Zs := if i.2 < i.1 then (true, fun _ => 0) else match l with
  | some (y, b) => metZ n x i.1 i.2 (copyZ n x y b z)
  | none => metZ n x i.1 i.2 (fgZ n x z)
noncomputable def asgZ (n : Int) (x : Int) (e : Xp) (z : Zs) : Zs := asgR n x (linP e) (evaP n.toNat n z e).1 z
def bdZ (n op x y b : Int) (z : Zs) : Zs := if op = 1 then bndZ n y x (0 - b) (bndZ n x y b z) else if op = 3 then bndZ n x y (b - 1) z else if op = 4 then bndZ n x y b z else if op = 5 then bndZ n y x (0 - b - 1) z else if op = 6 then bndZ n y x (0 - b) z else z
def hldZ (n op : Int) (L R : Xp) (s t : Int × Int) (z : Zs) : Zs :=
  let z1 := match linP L with | some (x, m) => metZ n x (s.1 - m) (s.2 - m) z | none => z
  let z2 := match linP R with | some (y, b) => metZ n y (t.1 - b) (t.2 - b) z1 | none => z1
  match linP L, linP R with
  | some (x, m), some (y, b) => if x ≠ y then bdZ n op x y (b - m) z2 else z2
  | _, _ => z2
def asmT (n op : Int) (L R : Xp) (T : (Int × Int) × (Int × Int)) (er : Bool × Bool) (z : Zs) : Zs × (Bool × Bool) := if T.1.2 < T.1.1 ∨ T.2.2 < T.2.1 then ((true, fun _ => 0), er) else (hldZ n op L R T.1 T.2 z, er)
def asmB (n op : Int) (L R : Xp) (B : (Int × Int) × (Int × Int) × (Bool × Bool)) (z : Zs) : Zs × (Bool × Bool) := asmT n op L R (tstI op B.1 B.2.1) B.2.2 z
noncomputable def asmZ (n op : Int) (L R : Xp) (z : Zs) : Zs × (Bool × Bool) := if z.1 = true then ((true, fun _ => 0), (false, false)) else asmB n op L R (bothI (recP (itD n.toNat n z) L) (recP (itD n.toNat n z) R)) z
theorem nm_none : Nm (1, 0) := .inl rfl
theorem tst_nm (op : Int) (a b : Int × Int) : Nm (tstI op a b).1 ∧ Nm (tstI op a b).2 := by
  have u : ∀ a b, Nm (unlI a b) := fun a b => by
    unfold unlI
    (repeat' split) <;> exact nm_of _ _
  unfold tstI
  (repeat' split) <;> first | exact ⟨nm_none, nm_none⟩ | exact ⟨nm_of _ _, nm_of _ _⟩ | exact ⟨u _ _, u _ _⟩
theorem nm_rz {p : Int × Int} (h : Nm p) (hp : ¬ p.2 < p.1) : Rz p := by
  rcases h with rfl | h
  · exact absurd (by decide) hp
  · exact h
/-- What a Num of so many variables tells. -/
structure NumOK (n : Int) (c : Bool) (I : D) (e : Bool) (f : Nat → Int) : Prop where
  good : Good n (e, f)
  c : c = e
  rows : I.rows = (itD n.toNat n (e, f)).rows
theorem rows_eq {d d' : D} (h : d.rows = d'.rows) : d.len = d'.len ∧ ∀ i j, d.el i j = d'.el i j := by
  unfold D.len D.el
  rw [h]
  exact ⟨rfl, fun _ _ => rfl⟩
theorem rec_rows {I J : D} (h : I.rows = J.rows) : ∀ m e, SizeOf.sizeOf e < m → recP I e = recP J e := by
  obtain ⟨h1, h2⟩ := rows_eq h
  have hp : ∀ v, prI I v = prI J v := fun v => by unfold prI; rw [h2, h2]
  intro m
  induction m with
  | zero => intro e h; omega
  | succ m ih =>
    intro e hs
    match e with
    | .mk k n v [] => rw [recP.eq_3 _ _ _ _ _ (fun a h => by cases h) (fun a b h => by cases h), recP.eq_3 _ _ _ _ _ (fun a h => by cases h) (fun a b h => by cases h), h1, hp]
    | .mk k n v [a] =>
      have : SizeOf.sizeOf a < m := by simp at hs; omega
      rw [recP, recP, h1, hp, ih a this]
    | .mk k n v [a, b] =>
      have : SizeOf.sizeOf a < m ∧ SizeOf.sizeOf b < m := by simp at hs; omega
      rw [recP, recP, h1, hp, ih a this.1, ih b this.2]
    | .mk k n v (a :: b :: c :: r) => rw [recP.eq_3 _ _ _ _ _ (fun a h => by cases h) (fun a b h => by cases h), recP.eq_3 _ _ _ _ _ (fun a h => by cases h) (fun a b h => by cases h), h1, hp]
theorem itv_nm (n : Int) (c : Bool) (f : Nat → Int) (x : Int) : Nm (itvLo n c f x, itvHi n c f x) := by
  unfold itvLo itvHi
  split
  · exact .inl rfl
  · exact nm_of _ _
theorem itD_pr {m : Nat} {v : Int} (h : 0 ≤ v ∧ v < m) (n : Int) (z : Zs) : prI (itD m n z) v = (itvLo n z.1 z.2 v, itvHi n z.1 z.2 v) := by
  obtain ⟨h1, h2⟩ := itD_el (m := m) (j := v.toNat) (by omega) n z
  unfold prI
  rw [h1, h2, Int.toNat_of_nonneg h.1]
theorem itD_rg {n : Int} (h : 0 ≤ n ∧ n ≤ 6) (z : Zs) : RgI (itD n.toNat n z) := by
  refine ⟨by rw [itD_len]; omega, fun v h0 h1 => ?_⟩
  rw [itD_len] at h1
  rw [itD_pr ⟨h0, h1⟩]
  exact (itv_nm _ _ _ _).rg
section
variable {n : Int} {c : Bool} {I : D} {e : Bool} {f : Nat → Int} (h : NumOK n c I e f)
include h
theorem NumOK.n0 : 0 ≤ n ∧ n ≤ 6 := h.good.n0
theorem NumOK.len : I.len = n.toNat := (rows_eq h.rows).1.trans (itD_len _ _ _)
theorem NumOK.rg : RgI I := by
  obtain ⟨h1, h2⟩ := rows_eq h.rows
  have := itD_rg h.n0 (e, f)
  refine ⟨by rw [h1]; exact this.1, fun v h0 hv => ?_⟩
  have hp : prI I v = prI (itD n.toNat n (e, f)) v := by unfold prI; rw [h2, h2]
  rw [hp]
  exact this.2 v h0 (by rw [← h1]; exact hv)
theorem NumOK.recs (x : Xp) : recP I x = recP (itD n.toNat n (e, f)) x := rec_rows h.rows _ x (Nat.lt_succ_self _)
theorem NumOK.top : topN (I.len : Int) = n := by have := h.n0; rw [h.len]; unfold topN; omega
theorem NumOK.le : I.len ≤ 1000 := h.rg.1
end
theorem numOK_of {n : Int} {z : Zs} (h : Good n z) : NumOK n z.1 (itD n.toNat n z) z.1 z.2 := ⟨h, rfl, rfl⟩
noncomputable def evalS : FSpec := fun ds _ => match ds with
  | [.i k, .i m, .i v, .d d, .b c, .d I, .i n, .b e, .f f] => some { val := .tup [.agg [.c (.int .i64 (.sym ((evaP n.toNat n (e, f) (ex k m v d)).1.1))), .c (.int .i64 (.sym ((evaP n.toNat n (e, f) (ex k m v d)).1.2)))], .agg [.c (.bool (.sym ((evaP n.toNat n (e, f) (ex k m v d)).2).1)), .c (.bool (.sym ((evaP n.toNat n (e, f) (ex k m v d)).2).2))]], vc := [NumOK n c I e f] }
  | _ => none
noncomputable def evalC : Con := con [xpA, numA] evalS
theorem eval_ok : ConOK Try.prog 41 evalC := by
  refine fn_ob tt_ok mixed Try.func41 rfl (fun _ _ => by kernel_rfl) (A := fun ds => ⟨fun _ => Cons.of [(85, reckC), (78, inoneC)], fun _ => none, fun _ => none⟩) (fun _ _ => (cons_cons reck_ok (cons_cons inone_ok cons_nil))) (by kernel_rfl) ?_
  intro ds fr
  unfold evalS
  split
  · rename_i k m v d c I n e f
    refine kmp (q := NumOK n c I e f →
 (c = true →
 (1 : Int) = (evaP n.toNat n (e, f) (ex k m v d)).fst.fst ∧
 (0 : Int) = (evaP n.toNat n (e, f) (ex k m v d)).fst.snd ∧
 false = (evaP n.toNat n (e, f) (ex k m v d)).snd.fst ∧ false = (evaP n.toNat n (e, f) (ex k m v d)).snd.snd) ∧
 (c = false →
 RgI I ∧
 (recP I (ex k m v d)).fst.fst = (evaP n.toNat n (e, f) (ex k m v d)).fst.fst ∧
 (recP I (ex k m v d)).fst.snd = (evaP n.toNat n (e, f) (ex k m v d)).fst.snd ∧
 (recP I (ex k m v d)).snd.fst = (evaP n.toNat n (e, f) (ex k m v d)).snd.fst ∧
 (recP I (ex k m v d)).snd.snd = (evaP n.toNat n (e, f) (ex k m v d)).snd.snd)) (by kernel_rfl) ?_
    intro h
    have hr := h.recs (ex k m v d)
    have e1 : evaP n.toNat n (e, f) (ex k m v d) = if c = true then noE else recP I (ex k m v d) := by unfold evaP; rw [hr, h.c]
    rw [e1]
    refine ⟨fun hc => ?_, fun hc => ⟨h.rg, ?_⟩⟩
    · rw [if_pos hc]; exact ⟨rfl, rfl, rfl, rfl⟩
    · rw [if_neg (by rw [hc]; simp)]; exact ⟨rfl, rfl, rfl, rfl⟩
  · trivial
noncomputable def assignS : FSpec := fun ds _ => match ds with
  | [.b c, .d I, .i n, .b e, .f f, .i x, .i k, .i m, .i v, .d d] => some { val := .tup [.agg [.c (.bool (.sym (asgZ n x (ex k m v d) (e, f) : Zs).1)), .c (.rows 48 (itD (n.toNat) (n) (asgZ n x (ex k m v d) (e, f)))), .c (.int .i64 (.sym (n))), .c (.bool (.sym (asgZ n x (ex k m v d) (e, f) : Zs).1)), .ints .i64 (.lit 49) (asgZ n x (ex k m v d) (e, f) : Zs).2], .agg [.c (.bool (.sym ((evaP n.toNat n (e, f) (ex k m v d)).2).1)), .c (.bool (.sym ((evaP n.toNat n (e, f) (ex k m v d)).2).2))]], vc := [NumOK n c I e f] }
  | _ => none
noncomputable def assignC : Con := con [numA, iA, xpA] assignS
theorem assign_ok : ConOK Try.prog 42 assignC := by
  refine fn_ob tt_ok mixed Try.func42 rfl (fun _ _ => by kernel_rfl) (A := fun ds => ⟨fun _ => Cons.of [(41, evalC), (46, emptyC), (51, nnoneC), (37, linC), (87, ncopyC), (86, nmeetC), (52, nsetC)], fun _ => none, fun _ => none⟩) (fun _ _ => (cons_cons eval_ok (cons_cons empty_ok (cons_cons nnone_ok (cons_cons lin_ok (cons_cons ncopy_ok (cons_cons nmeet_ok (cons_cons nset_ok cons_nil)))))))) (by kernel_rfl) ?_
  intro ds fr
  unfold assignS
  split
  · rename_i c I n e f x k m v d
    refine kmp (q := NumOK n c I e f →
 NumOK n c I e f ∧
 (decide ((evaP n.toNat n (e, f) (ex k m v d)).fst.snd < (evaP n.toNat n (e, f) (ex k m v d)).fst.fst) = true →
 true = (asgZ n x (ex k m v d) (e, f)).fst ∧
 List.map
 (fun (j : Nat) =>
 [D.i (itvLo (topN (↑I.len : Int)) true (fun (x : Nat) => (0 : Int)) (↑j : Int)),
 D.i (itvHi (topN (↑I.len : Int)) true (fun (x : Nat) => (0 : Int)) (↑j : Int))])
 (List.range (topN (↑I.len : Int)).toNat) =
 List.map
 (fun (j : Nat) =>
 [D.i (itvLo n (asgZ n x (ex k m v d) (e, f)).fst (asgZ n x (ex k m v d) (e, f)).snd (↑j : Int)),
 D.i (itvHi n (asgZ n x (ex k m v d) (e, f)).fst (asgZ n x (ex k m v d) (e, f)).snd (↑j : Int))])
 (List.range n.toNat) ∧
 topN (↑I.len : Int) = n ∧
 true = (asgZ n x (ex k m v d) (e, f)).fst ∧
 (∀ (o : Nat), o < nat_lit 49 → (0 : Int) = (asgZ n x (ex k m v d) (e, f)).snd o) ∧
 (evaP n.toNat n (e, f) (ex k m v d)).snd.fst = (evaP n.toNat n (e, f) (ex k m v d)).snd.fst ∧
 (evaP n.toNat n (e, f) (ex k m v d)).snd.snd = (evaP n.toNat n (e, f) (ex k m v d)).snd.snd) ∧
 (decide ((evaP n.toNat n (e, f) (ex k m v d)).fst.snd < (evaP n.toNat n (e, f) (ex k m v d)).fst.fst) = false →
 (oB (linP (ex k m v d)) = true →
 Good n (e, f) ∧
 I.len ≤ (1000 : Nat) ∧
 Good n
 ((copyZ n x (oX (linP (ex k m v d))) (oY (linP (ex k m v d))) (e, f)).fst,
 (copyZ n x (oX (linP (ex k m v d))) (oY (linP (ex k m v d))) (e, f)).snd) ∧
 (itD I.len n (copyZ n x (oX (linP (ex k m v d))) (oY (linP (ex k m v d))) (e, f))).len ≤ (1000 : Nat) ∧
 (metZ n x (evaP n.toNat n (e, f) (ex k m v d)).fst.fst (evaP n.toNat n (e, f) (ex k m v d)).fst.snd
 ((copyZ n x (oX (linP (ex k m v d))) (oY (linP (ex k m v d))) (e, f)).fst,
 (copyZ n x (oX (linP (ex k m v d))) (oY (linP (ex k m v d))) (e, f)).snd)).fst =
 (asgZ n x (ex k m v d) (e, f)).fst ∧
 List.map
 (fun (j : Nat) =>
 [D.i
 (itvLo n
 (metZ n x (evaP n.toNat n (e, f) (ex k m v d)).fst.fst (evaP n.toNat n (e, f) (ex k m v d)).fst.snd
 ((copyZ n x (oX (linP (ex k m v d))) (oY (linP (ex k m v d))) (e, f)).fst,
 (copyZ n x (oX (linP (ex k m v d))) (oY (linP (ex k m v d))) (e, f)).snd)).fst
 (metZ n x (evaP n.toNat n (e, f) (ex k m v d)).fst.fst (evaP n.toNat n (e, f) (ex k m v d)).fst.snd
 ((copyZ n x (oX (linP (ex k m v d))) (oY (linP (ex k m v d))) (e, f)).fst,
 (copyZ n x (oX (linP (ex k m v d))) (oY (linP (ex k m v d))) (e, f)).snd)).snd
 (↑j : Int)),
 D.i
 (itvHi n
 (metZ n x (evaP n.toNat n (e, f) (ex k m v d)).fst.fst (evaP n.toNat n (e, f) (ex k m v d)).fst.snd
 ((copyZ n x (oX (linP (ex k m v d))) (oY (linP (ex k m v d))) (e, f)).fst,
 (copyZ n x (oX (linP (ex k m v d))) (oY (linP (ex k m v d))) (e, f)).snd)).fst
 (metZ n x (evaP n.toNat n (e, f) (ex k m v d)).fst.fst (evaP n.toNat n (e, f) (ex k m v d)).fst.snd
 ((copyZ n x (oX (linP (ex k m v d))) (oY (linP (ex k m v d))) (e, f)).fst,
 (copyZ n x (oX (linP (ex k m v d))) (oY (linP (ex k m v d))) (e, f)).snd)).snd
 (↑j : Int))])
 (List.range (itD I.len n (copyZ n x (oX (linP (ex k m v d))) (oY (linP (ex k m v d))) (e, f))).len) =
 List.map
 (fun (j : Nat) =>
 [D.i (itvLo n (asgZ n x (ex k m v d) (e, f)).fst (asgZ n x (ex k m v d) (e, f)).snd (↑j : Int)),
 D.i (itvHi n (asgZ n x (ex k m v d) (e, f)).fst (asgZ n x (ex k m v d) (e, f)).snd (↑j : Int))])
 (List.range n.toNat) ∧
 n = n ∧
 (metZ n x (evaP n.toNat n (e, f) (ex k m v d)).fst.fst (evaP n.toNat n (e, f) (ex k m v d)).fst.snd
 ((copyZ n x (oX (linP (ex k m v d))) (oY (linP (ex k m v d))) (e, f)).fst,
 (copyZ n x (oX (linP (ex k m v d))) (oY (linP (ex k m v d))) (e, f)).snd)).fst =
 (asgZ n x (ex k m v d) (e, f)).fst ∧
 (∀ (o : Nat),
 o < nat_lit 49 →
 (metZ n x (evaP n.toNat n (e, f) (ex k m v d)).fst.fst (evaP n.toNat n (e, f) (ex k m v d)).fst.snd
 ((copyZ n x (oX (linP (ex k m v d))) (oY (linP (ex k m v d))) (e, f)).fst,
 (copyZ n x (oX (linP (ex k m v d))) (oY (linP (ex k m v d))) (e, f)).snd)).snd
 o =
 (asgZ n x (ex k m v d) (e, f)).snd o) ∧
 (evaP n.toNat n (e, f) (ex k m v d)).snd.fst = (evaP n.toNat n (e, f) (ex k m v d)).snd.fst ∧
 (evaP n.toNat n (e, f) (ex k m v d)).snd.snd = (evaP n.toNat n (e, f) (ex k m v d)).snd.snd) ∧
 (oB (linP (ex k m v d)) = false →
 Good n (e, f) ∧
 I.len ≤ (1000 : Nat) ∧
 (metZ n x (evaP n.toNat n (e, f) (ex k m v d)).fst.fst (evaP n.toNat n (e, f) (ex k m v d)).fst.snd (fgZ n x (e, f))).fst =
 (asgZ n x (ex k m v d) (e, f)).fst ∧
 List.map
 (fun (j : Nat) =>
 [D.i
 (itvLo n (metZ n x (evaP n.toNat n (e, f) (ex k m v d)).fst.fst (evaP n.toNat n (e, f) (ex k m v d)).fst.snd (fgZ n x (e, f))).fst
 (metZ n x (evaP n.toNat n (e, f) (ex k m v d)).fst.fst (evaP n.toNat n (e, f) (ex k m v d)).fst.snd (fgZ n x (e, f))).snd
 (↑j : Int)),
 D.i
 (itvHi n (metZ n x (evaP n.toNat n (e, f) (ex k m v d)).fst.fst (evaP n.toNat n (e, f) (ex k m v d)).fst.snd (fgZ n x (e, f))).fst
 (metZ n x (evaP n.toNat n (e, f) (ex k m v d)).fst.fst (evaP n.toNat n (e, f) (ex k m v d)).fst.snd (fgZ n x (e, f))).snd
 (↑j : Int))])
 (List.range I.len) =
 List.map
 (fun (j : Nat) =>
 [D.i (itvLo n (asgZ n x (ex k m v d) (e, f)).fst (asgZ n x (ex k m v d) (e, f)).snd (↑j : Int)),
 D.i (itvHi n (asgZ n x (ex k m v d) (e, f)).fst (asgZ n x (ex k m v d) (e, f)).snd (↑j : Int))])
 (List.range n.toNat) ∧
 n = n ∧
 (metZ n x (evaP n.toNat n (e, f) (ex k m v d)).fst.fst (evaP n.toNat n (e, f) (ex k m v d)).fst.snd (fgZ n x (e, f))).fst =
 (asgZ n x (ex k m v d) (e, f)).fst ∧
 (∀ (o : Nat),
 o < nat_lit 49 →
 (metZ n x (evaP n.toNat n (e, f) (ex k m v d)).fst.fst (evaP n.toNat n (e, f) (ex k m v d)).fst.snd (fgZ n x (e, f))).snd o =
 (asgZ n x (ex k m v d) (e, f)).snd o) ∧
 (evaP n.toNat n (e, f) (ex k m v d)).snd.fst = (evaP n.toNat n (e, f) (ex k m v d)).snd.fst ∧
 (evaP n.toNat n (e, f) (ex k m v d)).snd.snd = (evaP n.toNat n (e, f) (ex k m v d)).snd.snd))) (by kernel_rfl) ?_
    intro h
    have hz := h.good
    have hle := h.le
    have tn := h.top
    simp only [itD_len, h.len] at *
    unfold asgZ
    generalize evaP n.toNat n (e, f) (ex k m v d) = r
    generalize linP (ex k m v d) = l
    refine ⟨h, fun hc => ?_, fun hc => ⟨fun hb => ?_, fun hb => ?_⟩⟩
    · have hc : r.1.2 < r.1.1 := by simpa using hc
      have ea : asgR n x l r.1 (e, f) = (true, fun _ => 0) := if_pos hc
      rw [ea, tn]; exact ⟨rfl, rfl, rfl, rfl, fun _ _ => rfl, trivial, trivial⟩
    · have hc : ¬ r.1.2 < r.1.1 := by simpa using hc
      rcases l with _ | ⟨y, b⟩
      · cases hb
      · have ea : asgR n x (some (y, b)) r.1 (e, f) = metZ n x r.1.1 r.1.2 (copyZ n x y b (e, f)) := if_neg hc
        rw [ea]; exact ⟨hz, hle, good_copy hz _ _ _, hle, rfl, rfl, trivial, rfl, fun _ _ => rfl, trivial, trivial⟩
    · have hc : ¬ r.1.2 < r.1.1 := by simpa using hc
      rcases l with _ | ⟨y, b⟩
      · have ea : asgR n x none r.1 (e, f) = metZ n x r.1.1 r.1.2 (fgZ n x (e, f)) := if_neg hc
        rw [ea]; exact ⟨hz, hle, rfl, rfl, trivial, rfl, fun _ _ => rfl, trivial, trivial⟩
      · cases hb
  · trivial
noncomputable def eboundedS : FSpec := fun ds _ => match ds with
  | [.b c, .d I, .i n, .b e, .f f, .i op, .i x, .i y, .i b] => some { val := .one (.agg [.c (.bool (.sym (bdZ n op x y b (e, f) : Zs).1)), .c (.rows 48 (itD (I.len) (n) (bdZ n op x y b (e, f)))), .c (.int .i64 (.sym (n))), .c (.bool (.sym (bdZ n op x y b (e, f) : Zs).1)), .ints .i64 (.lit 49) (bdZ n op x y b (e, f) : Zs).2]), vc := [NumOK n c I e f, -2199023255552 ≤ b ∧ b ≤ 2199023255552] }
  | _ => none
noncomputable def eboundedC : Con := con [numA, iA, iA, iA, iA] eboundedS
theorem ebounded_ok : ConOK Try.prog 124 eboundedC := by
  refine fn_ob tt_ok mixed Try.func124 rfl (fun _ _ => by kernel_rfl) (A := fun ds => ⟨fun _ => Cons.of [(145, nboundC)], fun _ => none, fun _ => none⟩) (fun _ _ => (cons_cons nbound_ok cons_nil)) (by kernel_rfl) ?_
  intro ds fr
  unfold eboundedS
  split
  · rename_i c I n e f op x y b
    refine kmp (q := NumOK n c I e f →
 (-2199023255552 : Int) ≤ b ∧ b ≤ (2199023255552 : Int) →
 ((op == (1 : Int)) = true →
 Good n (e, f) ∧
 I.len ≤ (1000 : Nat) ∧
 Good n ((bndZ n x y b (e, f)).fst, (bndZ n x y b (e, f)).snd) ∧
 (itD I.len n (bndZ n x y b (e, f))).len ≤ (1000 : Nat) ∧
 (bndZ n y x (IntKind.i64.wrap ((0 : Int) - b)) ((bndZ n x y b (e, f)).fst, (bndZ n x y b (e, f)).snd)).fst = (bdZ n op x y b (e, f)).fst ∧
 List.map
 (fun (j : Nat) =>
 [D.i
 (itvLo n (bndZ n y x (IntKind.i64.wrap ((0 : Int) - b)) ((bndZ n x y b (e, f)).fst, (bndZ n x y b (e, f)).snd)).fst
 (bndZ n y x (IntKind.i64.wrap ((0 : Int) - b)) ((bndZ n x y b (e, f)).fst, (bndZ n x y b (e, f)).snd)).snd (↑j : Int)),
 D.i
 (itvHi n (bndZ n y x (IntKind.i64.wrap ((0 : Int) - b)) ((bndZ n x y b (e, f)).fst, (bndZ n x y b (e, f)).snd)).fst
 (bndZ n y x (IntKind.i64.wrap ((0 : Int) - b)) ((bndZ n x y b (e, f)).fst, (bndZ n x y b (e, f)).snd)).snd (↑j : Int))])
 (List.range (itD I.len n (bndZ n x y b (e, f))).len) =
 List.map
 (fun (j : Nat) =>
 [D.i (itvLo n (bdZ n op x y b (e, f)).fst (bdZ n op x y b (e, f)).snd (↑j : Int)),
 D.i (itvHi n (bdZ n op x y b (e, f)).fst (bdZ n op x y b (e, f)).snd (↑j : Int))])
 (List.range I.len) ∧
 n = n ∧
 (bndZ n y x (IntKind.i64.wrap ((0 : Int) - b)) ((bndZ n x y b (e, f)).fst, (bndZ n x y b (e, f)).snd)).fst = (bdZ n op x y b (e, f)).fst ∧
 ∀ (o : Nat),
 o < nat_lit 49 →
 (bndZ n y x (IntKind.i64.wrap ((0 : Int) - b)) ((bndZ n x y b (e, f)).fst, (bndZ n x y b (e, f)).snd)).snd o =
 (bdZ n op x y b (e, f)).snd o) ∧
 ((op == (1 : Int)) = false →
 ((op == (3 : Int)) = true →
 Good n (e, f) ∧
 I.len ≤ (1000 : Nat) ∧
 (bndZ n x y (IntKind.i64.wrap (b - (1 : Int))) (e, f)).fst = (bdZ n op x y b (e, f)).fst ∧
 List.map
 (fun (j : Nat) =>
 [D.i
 (itvLo n (bndZ n x y (IntKind.i64.wrap (b - (1 : Int))) (e, f)).fst (bndZ n x y (IntKind.i64.wrap (b - (1 : Int))) (e, f)).snd
 (↑j : Int)),
 D.i
 (itvHi n (bndZ n x y (IntKind.i64.wrap (b - (1 : Int))) (e, f)).fst (bndZ n x y (IntKind.i64.wrap (b - (1 : Int))) (e, f)).snd
 (↑j : Int))])
 (List.range I.len) =
 List.map
 (fun (j : Nat) =>
 [D.i (itvLo n (bdZ n op x y b (e, f)).fst (bdZ n op x y b (e, f)).snd (↑j : Int)),
 D.i (itvHi n (bdZ n op x y b (e, f)).fst (bdZ n op x y b (e, f)).snd (↑j : Int))])
 (List.range I.len) ∧
 n = n ∧
 (bndZ n x y (IntKind.i64.wrap (b - (1 : Int))) (e, f)).fst = (bdZ n op x y b (e, f)).fst ∧
 ∀ (o : Nat), o < nat_lit 49 → (bndZ n x y (IntKind.i64.wrap (b - (1 : Int))) (e, f)).snd o = (bdZ n op x y b (e, f)).snd o) ∧
 ((op == (3 : Int)) = false →
 ((op == (4 : Int)) = true →
 Good n (e, f) ∧
 I.len ≤ (1000 : Nat) ∧
 (bndZ n x y b (e, f)).fst = (bdZ n op x y b (e, f)).fst ∧
 List.map
 (fun (j : Nat) =>
 [D.i (itvLo n (bndZ n x y b (e, f)).fst (bndZ n x y b (e, f)).snd (↑j : Int)),
 D.i (itvHi n (bndZ n x y b (e, f)).fst (bndZ n x y b (e, f)).snd (↑j : Int))])
 (List.range I.len) =
 List.map
 (fun (j : Nat) =>
 [D.i (itvLo n (bdZ n op x y b (e, f)).fst (bdZ n op x y b (e, f)).snd (↑j : Int)),
 D.i (itvHi n (bdZ n op x y b (e, f)).fst (bdZ n op x y b (e, f)).snd (↑j : Int))])
 (List.range I.len) ∧
 n = n ∧
 (bndZ n x y b (e, f)).fst = (bdZ n op x y b (e, f)).fst ∧
 ∀ (o : Nat), o < nat_lit 49 → (bndZ n x y b (e, f)).snd o = (bdZ n op x y b (e, f)).snd o) ∧
 ((op == (4 : Int)) = false →
 ((op == (5 : Int)) = true →
 Good n (e, f) ∧
 I.len ≤ (1000 : Nat) ∧
 (bndZ n y x (IntKind.i64.wrap (IntKind.i64.wrap ((0 : Int) - b) - (1 : Int))) (e, f)).fst = (bdZ n op x y b (e, f)).fst ∧
 List.map
 (fun (j : Nat) =>
 [D.i
 (itvLo n (bndZ n y x (IntKind.i64.wrap (IntKind.i64.wrap ((0 : Int) - b) - (1 : Int))) (e, f)).fst
 (bndZ n y x (IntKind.i64.wrap (IntKind.i64.wrap ((0 : Int) - b) - (1 : Int))) (e, f)).snd (↑j : Int)),
 D.i
 (itvHi n (bndZ n y x (IntKind.i64.wrap (IntKind.i64.wrap ((0 : Int) - b) - (1 : Int))) (e, f)).fst
 (bndZ n y x (IntKind.i64.wrap (IntKind.i64.wrap ((0 : Int) - b) - (1 : Int))) (e, f)).snd (↑j : Int))])
 (List.range I.len) =
 List.map
 (fun (j : Nat) =>
 [D.i (itvLo n (bdZ n op x y b (e, f)).fst (bdZ n op x y b (e, f)).snd (↑j : Int)),
 D.i (itvHi n (bdZ n op x y b (e, f)).fst (bdZ n op x y b (e, f)).snd (↑j : Int))])
 (List.range I.len) ∧
 n = n ∧
 (bndZ n y x (IntKind.i64.wrap (IntKind.i64.wrap ((0 : Int) - b) - (1 : Int))) (e, f)).fst = (bdZ n op x y b (e, f)).fst ∧
 ∀ (o : Nat),
 o < nat_lit 49 →
 (bndZ n y x (IntKind.i64.wrap (IntKind.i64.wrap ((0 : Int) - b) - (1 : Int))) (e, f)).snd o =
 (bdZ n op x y b (e, f)).snd o) ∧
 ((op == (5 : Int)) = false →
 ((op == (6 : Int)) = true →
 Good n (e, f) ∧
 I.len ≤ (1000 : Nat) ∧
 (bndZ n y x (IntKind.i64.wrap ((0 : Int) - b)) (e, f)).fst = (bdZ n op x y b (e, f)).fst ∧
 List.map
 (fun (j : Nat) =>
 [D.i
 (itvLo n (bndZ n y x (IntKind.i64.wrap ((0 : Int) - b)) (e, f)).fst
 (bndZ n y x (IntKind.i64.wrap ((0 : Int) - b)) (e, f)).snd (↑j : Int)),
 D.i
 (itvHi n (bndZ n y x (IntKind.i64.wrap ((0 : Int) - b)) (e, f)).fst
 (bndZ n y x (IntKind.i64.wrap ((0 : Int) - b)) (e, f)).snd (↑j : Int))])
 (List.range I.len) =
 List.map
 (fun (j : Nat) =>
 [D.i (itvLo n (bdZ n op x y b (e, f)).fst (bdZ n op x y b (e, f)).snd (↑j : Int)),
 D.i (itvHi n (bdZ n op x y b (e, f)).fst (bdZ n op x y b (e, f)).snd (↑j : Int))])
 (List.range I.len) ∧
 n = n ∧
 (bndZ n y x (IntKind.i64.wrap ((0 : Int) - b)) (e, f)).fst = (bdZ n op x y b (e, f)).fst ∧
 ∀ (o : Nat),
 o < nat_lit 49 → (bndZ n y x (IntKind.i64.wrap ((0 : Int) - b)) (e, f)).snd o = (bdZ n op x y b (e, f)).snd o) ∧
 ((op == (6 : Int)) = false →
 c = (bdZ n op x y b (e, f)).fst ∧
 I.rows =
 List.map
 (fun (j : Nat) =>
 [D.i (itvLo n (bdZ n op x y b (e, f)).fst (bdZ n op x y b (e, f)).snd (↑j : Int)),
 D.i (itvHi n (bdZ n op x y b (e, f)).fst (bdZ n op x y b (e, f)).snd (↑j : Int))])
 (List.range I.len) ∧
 n = n ∧ e = (bdZ n op x y b (e, f)).fst ∧ ∀ (o : Nat), o < nat_lit 49 → f o = (bdZ n op x y b (e, f)).snd o)))))) (by kernel_rfl) ?_
    intro h hb
    have hz := h.good
    have hle := h.le
    have w1 : IntKind.i64.wrap (0 - b) = 0 - b := wr _ (by omega)
    have w2 : IntKind.i64.wrap (b - 1) = b - 1 := wr _ (by omega)
    have w3 : IntKind.i64.wrap (0 - b - 1) = 0 - b - 1 := wr _ (by omega)
    simp only [w1, w2, w3, itD_len]
    refine ⟨fun o => ?_, fun o1 => ⟨fun o => ?_, fun o2 => ⟨fun o => ?_, fun o3 => ⟨fun o => ?_, fun o4 => ⟨fun o => ?_, fun o5 => ?_⟩⟩⟩⟩⟩
    · have o : op = 1 := by simpa using o
      subst o; exact ⟨hz, hle, good_bnd hz _ _ _, hle, rfl, rfl, trivial, rfl, fun _ _ => rfl⟩
    · have o : op = 3 := by simpa using o
      subst o; exact ⟨hz, hle, rfl, rfl, trivial, rfl, fun _ _ => rfl⟩
    · have o : op = 4 := by simpa using o
      subst o; exact ⟨hz, hle, rfl, rfl, trivial, rfl, fun _ _ => rfl⟩
    · have o : op = 5 := by simpa using o
      subst o; exact ⟨hz, hle, rfl, rfl, trivial, rfl, fun _ _ => rfl⟩
    · have o : op = 6 := by simpa using o
      subst o; exact ⟨hz, hle, rfl, rfl, trivial, rfl, fun _ _ => rfl⟩
    · simp at o1 o2 o3 o4 o5
      have e1 : bdZ n op x y b (e, f) = (e, f) := by unfold bdZ; rw [if_neg o1, if_neg o2, if_neg o3, if_neg o4, if_neg o5]
      rw [e1]
      exact ⟨h.c, by rw [h.len]; exact h.rows, trivial, rfl, fun _ _ => rfl⟩
  · trivial
noncomputable def ebothNS : FSpec := fun ds _ => match ds with
  | [.i k, .i n, .i v, .d d, .i k2, .i n2, .i v2, .d d2, .d I] => some { val := .tup [.agg [.c (.int .i64 (.sym ((bothI (recP I (ex k n v d)) (recP I (ex k2 n2 v2 d2))).1.1))), .c (.int .i64 (.sym ((bothI (recP I (ex k n v d)) (recP I (ex k2 n2 v2 d2))).1.2)))], .agg [.c (.int .i64 (.sym ((bothI (recP I (ex k n v d)) (recP I (ex k2 n2 v2 d2))).2.1.1))), .c (.int .i64 (.sym ((bothI (recP I (ex k n v d)) (recP I (ex k2 n2 v2 d2))).2.1.2)))], .agg [.c (.bool (.sym (bothI (recP I (ex k n v d)) (recP I (ex k2 n2 v2 d2))).2.2.1)), .c (.bool (.sym (bothI (recP I (ex k n v d)) (recP I (ex k2 n2 v2 d2))).2.2.2))]], vc := [RgI I] }
  | _ => none
noncomputable def ebothNC : Con := con [xpA, xpA, .sc (.rows 48)] ebothNS
theorem ebothN_ok : ConOK Try.prog 92 ebothNC := by
  refine fn_ob tt_ok mixed Try.func92 rfl (fun _ _ => by kernel_rfl) (A := fun ds => ⟨fun _ => Cons.of [(85, reckC), (46, emptyC), (78, inoneC), (111, togC)], fun _ => none, fun _ => none⟩) (fun _ _ => (cons_cons reck_ok (cons_cons empty_ok (cons_cons inone_ok (cons_cons tog_ok cons_nil))))) (by kernel_rfl) ?_
  intro ds fr
  unfold ebothNS
  split
  · rename_i k n v d k2 n2 v2 d2 I
    refine kmp (q := RgI I →
 RgI I ∧
 (decide ((recP I (ex k n v d)).fst.snd < (recP I (ex k n v d)).fst.fst) = true →
 (1 : Int) = (bothI (recP I (ex k n v d)) (recP I (ex k2 n2 v2 d2))).fst.fst ∧
 (0 : Int) = (bothI (recP I (ex k n v d)) (recP I (ex k2 n2 v2 d2))).fst.snd ∧
 (1 : Int) = (bothI (recP I (ex k n v d)) (recP I (ex k2 n2 v2 d2))).snd.fst.fst ∧
 (0 : Int) = (bothI (recP I (ex k n v d)) (recP I (ex k2 n2 v2 d2))).snd.fst.snd ∧
 (recP I (ex k n v d)).snd.fst = (bothI (recP I (ex k n v d)) (recP I (ex k2 n2 v2 d2))).snd.snd.fst ∧
 (recP I (ex k n v d)).snd.snd = (bothI (recP I (ex k n v d)) (recP I (ex k2 n2 v2 d2))).snd.snd.snd) ∧
 (decide ((recP I (ex k n v d)).fst.snd < (recP I (ex k n v d)).fst.fst) = false →
 RgI I ∧
 (recP I (ex k n v d)).fst.fst = (bothI (recP I (ex k n v d)) (recP I (ex k2 n2 v2 d2))).fst.fst ∧
 (recP I (ex k n v d)).fst.snd = (bothI (recP I (ex k n v d)) (recP I (ex k2 n2 v2 d2))).fst.snd ∧
 (recP I (ex k2 n2 v2 d2)).fst.fst = (bothI (recP I (ex k n v d)) (recP I (ex k2 n2 v2 d2))).snd.fst.fst ∧
 (recP I (ex k2 n2 v2 d2)).fst.snd = (bothI (recP I (ex k n v d)) (recP I (ex k2 n2 v2 d2))).snd.fst.snd ∧
 (tg ((recP I (ex k n v d)).snd.fst, (recP I (ex k n v d)).snd.snd)
 ((recP I (ex k2 n2 v2 d2)).snd.fst, (recP I (ex k2 n2 v2 d2)).snd.snd)).fst =
 (bothI (recP I (ex k n v d)) (recP I (ex k2 n2 v2 d2))).snd.snd.fst ∧
 (tg ((recP I (ex k n v d)).snd.fst, (recP I (ex k n v d)).snd.snd)
 ((recP I (ex k2 n2 v2 d2)).snd.fst, (recP I (ex k2 n2 v2 d2)).snd.snd)).snd =
 (bothI (recP I (ex k n v d)) (recP I (ex k2 n2 v2 d2))).snd.snd.snd)) (by kernel_rfl) ?_
    intro hI
    unfold bothI
    generalize recP I (ex k n v d) = l
    generalize recP I (ex k2 n2 v2 d2) = r
    refine ⟨hI, fun h => ?_, fun h => ⟨hI, ?_⟩⟩
    · have h : l.1.2 < l.1.1 := by simpa using h
      rw [if_pos h]; exact ⟨rfl, rfl, rfl, rfl, rfl, rfl⟩
    · have h : ¬ l.1.2 < l.1.1 := by simpa using h
      rw [if_neg h]; exact ⟨rfl, rfl, rfl, rfl, rfl, rfl⟩
  · trivial
noncomputable def heldS : FSpec := fun ds _ => match ds with
  | [.b c, .d I, .i n, .b e, .f f, .i op, .i k, .i m, .i v, .d d, .i k2, .i m2, .i v2, .d d2, .i s1, .i s2, .i t1, .i t2] => some { val := .one (.agg [.c (.bool (.sym (hldZ n op (ex k m v d) (ex k2 m2 v2 d2) (s1, s2) (t1, t2) (e, f) : Zs).1)), .c (.rows 48 (itD (I.len) (n) (hldZ n op (ex k m v d) (ex k2 m2 v2 d2) (s1, s2) (t1, t2) (e, f)))), .c (.int .i64 (.sym (n))), .c (.bool (.sym (hldZ n op (ex k m v d) (ex k2 m2 v2 d2) (s1, s2) (t1, t2) (e, f) : Zs).1)), .ints .i64 (.lit 49) (hldZ n op (ex k m v d) (ex k2 m2 v2 d2) (s1, s2) (t1, t2) (e, f) : Zs).2]), vc := [NumOK n c I e f, 0 < n, Rz (s1, s2), Rz (t1, t2)] }
  | _ => none
noncomputable def heldC : Con := con [numA, .agg [.c (.int .i64), .c (.int .i64), .c (.int .i64), .c (.int .i64), .c (.rows 32), .c (.int .i64), .c (.int .i64), .c (.int .i64), .c (.rows 32)], itvA, itvA] heldS
theorem held_ok : ConOK Try.prog 94 heldC := by
  refine fn_ob tt_ok mixed Try.func94 rfl (fun _ _ => by kernel_rfl) (A := fun ds => ⟨fun _ => Cons.of [(37, linC), (122, icloneC), (86, nmeetC), (123, elessC), (124, eboundedC)], fun _ => none, fun _ => none⟩) (fun _ _ => (cons_cons lin_ok (cons_cons iclone_ok (cons_cons nmeet_ok (cons_cons eless_ok (cons_cons ebounded_ok cons_nil)))))) (by kernel_rfl) ?_
  intro ds fr
  unfold heldS
  split
  · rename_i c I n e f op k m v d k2 m2 v2 d2 s1 s2 t1 t2
    refine kmp (q := NumOK n c I e f →
 (0 : Int) < n →
 Rz (s1, s2) →
 Rz (t1, t2) →
 ((0 : Nat) < I.len ∧ I.len ≤ (1000 : Nat)) ∧
 (oB (linP (ex k m v d)) = true →
 Rz (s1, s2) ∧
 ((-1099511627776 : Int) ≤ oY (linP (ex k m v d)) ∧ oY (linP (ex k m v d)) ≤ (1099511627776 : Int)) ∧
 Good n (e, f) ∧
 I.len ≤ (1000 : Nat) ∧
 (oB (linP (ex k2 m2 v2 d2)) = true →
 Rz (t1, t2) ∧
 ((-1099511627776 : Int) ≤ oY (linP (ex k2 m2 v2 d2)) ∧ oY (linP (ex k2 m2 v2 d2)) ≤ (1099511627776 : Int)) ∧
 Good n
 ((metZ n (oX (linP (ex k m v d))) (s1 - oY (linP (ex k m v d))) (s2 - oY (linP (ex k m v d))) (e, f)).fst,
 (metZ n (oX (linP (ex k m v d))) (s1 - oY (linP (ex k m v d))) (s2 - oY (linP (ex k m v d))) (e, f)).snd) ∧
 (itD I.len n (metZ n (oX (linP (ex k m v d))) (s1 - oY (linP (ex k m v d))) (s2 - oY (linP (ex k m v d))) (e, f))).len ≤
 (1000 : Nat) ∧
 ((oB (linP (ex k m v d)) && oB (linP (ex k2 m2 v2 d2)) && oX (linP (ex k m v d)) != oX (linP (ex k2 m2 v2 d2))) = true →
 NumOK n
 (metZ n (oX (linP (ex k2 m2 v2 d2))) (t1 - oY (linP (ex k2 m2 v2 d2))) (t2 - oY (linP (ex k2 m2 v2 d2)))
 ((metZ n (oX (linP (ex k m v d))) (s1 - oY (linP (ex k m v d))) (s2 - oY (linP (ex k m v d))) (e, f)).fst,
 (metZ n (oX (linP (ex k m v d))) (s1 - oY (linP (ex k m v d))) (s2 - oY (linP (ex k m v d))) (e, f)).snd)).fst
 (itD
 (itD I.len n
 (metZ n (oX (linP (ex k m v d))) (s1 - oY (linP (ex k m v d))) (s2 - oY (linP (ex k m v d))) (e, f))).len
 n
 (metZ n (oX (linP (ex k2 m2 v2 d2))) (t1 - oY (linP (ex k2 m2 v2 d2))) (t2 - oY (linP (ex k2 m2 v2 d2)))
 ((metZ n (oX (linP (ex k m v d))) (s1 - oY (linP (ex k m v d))) (s2 - oY (linP (ex k m v d))) (e, f)).fst,
 (metZ n (oX (linP (ex k m v d))) (s1 - oY (linP (ex k m v d))) (s2 - oY (linP (ex k m v d))) (e, f)).snd)))
 (metZ n (oX (linP (ex k2 m2 v2 d2))) (t1 - oY (linP (ex k2 m2 v2 d2))) (t2 - oY (linP (ex k2 m2 v2 d2)))
 ((metZ n (oX (linP (ex k m v d))) (s1 - oY (linP (ex k m v d))) (s2 - oY (linP (ex k m v d))) (e, f)).fst,
 (metZ n (oX (linP (ex k m v d))) (s1 - oY (linP (ex k m v d))) (s2 - oY (linP (ex k m v d))) (e, f)).snd)).fst
 (metZ n (oX (linP (ex k2 m2 v2 d2))) (t1 - oY (linP (ex k2 m2 v2 d2))) (t2 - oY (linP (ex k2 m2 v2 d2)))
 ((metZ n (oX (linP (ex k m v d))) (s1 - oY (linP (ex k m v d))) (s2 - oY (linP (ex k m v d))) (e, f)).fst,
 (metZ n (oX (linP (ex k m v d))) (s1 - oY (linP (ex k m v d))) (s2 - oY (linP (ex k m v d))) (e, f)).snd)).snd ∧
 ((-2199023255552 : Int) ≤ IntKind.i64.wrap (oY (linP (ex k2 m2 v2 d2)) - oY (linP (ex k m v d))) ∧
 IntKind.i64.wrap (oY (linP (ex k2 m2 v2 d2)) - oY (linP (ex k m v d))) ≤ (2199023255552 : Int)) ∧
 (bdZ n op (oX (linP (ex k m v d))) (oX (linP (ex k2 m2 v2 d2)))
 (IntKind.i64.wrap (oY (linP (ex k2 m2 v2 d2)) - oY (linP (ex k m v d))))
 ((metZ n (oX (linP (ex k2 m2 v2 d2))) (t1 - oY (linP (ex k2 m2 v2 d2))) (t2 - oY (linP (ex k2 m2 v2 d2)))
 ((metZ n (oX (linP (ex k m v d))) (s1 - oY (linP (ex k m v d))) (s2 - oY (linP (ex k m v d)))
 (e, f)).fst,
 (metZ n (oX (linP (ex k m v d))) (s1 - oY (linP (ex k m v d))) (s2 - oY (linP (ex k m v d)))
 (e, f)).snd)).fst,
 (metZ n (oX (linP (ex k2 m2 v2 d2))) (t1 - oY (linP (ex k2 m2 v2 d2))) (t2 - oY (linP (ex k2 m2 v2 d2)))
 ((metZ n (oX (linP (ex k m v d))) (s1 - oY (linP (ex k m v d))) (s2 - oY (linP (ex k m v d)))
 (e, f)).fst,
 (metZ n (oX (linP (ex k m v d))) (s1 - oY (linP (ex k m v d))) (s2 - oY (linP (ex k m v d)))
 (e, f)).snd)).snd)).fst =
 (hldZ n op (ex k m v d) (ex k2 m2 v2 d2) (s1, s2) (t1, t2) (e, f)).fst ∧
 List.map
 (fun (j : Nat) =>
 [D.i
 (itvLo n
 (bdZ n op (oX (linP (ex k m v d))) (oX (linP (ex k2 m2 v2 d2)))
 (IntKind.i64.wrap (oY (linP (ex k2 m2 v2 d2)) - oY (linP (ex k m v d))))
 ((metZ n (oX (linP (ex k2 m2 v2 d2))) (t1 - oY (linP (ex k2 m2 v2 d2)))
 (t2 - oY (linP (ex k2 m2 v2 d2)))
 ((metZ n (oX (linP (ex k m v d))) (s1 - oY (linP (ex k m v d)))
 (s2 - oY (linP (ex k m v d))) (e, f)).fst,
 (metZ n (oX (linP (ex k m v d))) (s1 - oY (linP (ex k m v d)))
 (s2 - oY (linP (ex k m v d))) (e, f)).snd)).fst,
 (metZ n (oX (linP (ex k2 m2 v2 d2))) (t1 - oY (linP (ex k2 m2 v2 d2)))
 (t2 - oY (linP (ex k2 m2 v2 d2)))
 ((metZ n (oX (linP (ex k m v d))) (s1 - oY (linP (ex k m v d)))
 (s2 - oY (linP (ex k m v d))) (e, f)).fst,
 (metZ n (oX (linP (ex k m v d))) (s1 - oY (linP (ex k m v d)))
 (s2 - oY (linP (ex k m v d))) (e, f)).snd)).snd)).fst
 (bdZ n op (oX (linP (ex k m v d))) (oX (linP (ex k2 m2 v2 d2)))
 (IntKind.i64.wrap (oY (linP (ex k2 m2 v2 d2)) - oY (linP (ex k m v d))))
 ((metZ n (oX (linP (ex k2 m2 v2 d2))) (t1 - oY (linP (ex k2 m2 v2 d2)))
 (t2 - oY (linP (ex k2 m2 v2 d2)))
 ((metZ n (oX (linP (ex k m v d))) (s1 - oY (linP (ex k m v d)))
 (s2 - oY (linP (ex k m v d))) (e, f)).fst,
 (metZ n (oX (linP (ex k m v d))) (s1 - oY (linP (ex k m v d)))
 (s2 - oY (linP (ex k m v d))) (e, f)).snd)).fst,
 (metZ n (oX (linP (ex k2 m2 v2 d2))) (t1 - oY (linP (ex k2 m2 v2 d2)))
 (t2 - oY (linP (ex k2 m2 v2 d2)))
 ((metZ n (oX (linP (ex k m v d))) (s1 - oY (linP (ex k m v d)))
 (s2 - oY (linP (ex k m v d))) (e, f)).fst,
 (metZ n (oX (linP (ex k m v d))) (s1 - oY (linP (ex k m v d)))
 (s2 - oY (linP (ex k m v d))) (e, f)).snd)).snd)).snd
 (↑j : Int)),
 D.i
 (itvHi n
 (bdZ n op (oX (linP (ex k m v d))) (oX (linP (ex k2 m2 v2 d2)))
 (IntKind.i64.wrap (oY (linP (ex k2 m2 v2 d2)) - oY (linP (ex k m v d))))
 ((metZ n (oX (linP (ex k2 m2 v2 d2))) (t1 - oY (linP (ex k2 m2 v2 d2)))
 (t2 - oY (linP (ex k2 m2 v2 d2)))
 ((metZ n (oX (linP (ex k m v d))) (s1 - oY (linP (ex k m v d)))
 (s2 - oY (linP (ex k m v d))) (e, f)).fst,
 (metZ n (oX (linP (ex k m v d))) (s1 - oY (linP (ex k m v d)))
 (s2 - oY (linP (ex k m v d))) (e, f)).snd)).fst,
 (metZ n (oX (linP (ex k2 m2 v2 d2))) (t1 - oY (linP (ex k2 m2 v2 d2)))
 (t2 - oY (linP (ex k2 m2 v2 d2)))
 ((metZ n (oX (linP (ex k m v d))) (s1 - oY (linP (ex k m v d)))
 (s2 - oY (linP (ex k m v d))) (e, f)).fst,
 (metZ n (oX (linP (ex k m v d))) (s1 - oY (linP (ex k m v d)))
 (s2 - oY (linP (ex k m v d))) (e, f)).snd)).snd)).fst
 (bdZ n op (oX (linP (ex k m v d))) (oX (linP (ex k2 m2 v2 d2)))
 (IntKind.i64.wrap (oY (linP (ex k2 m2 v2 d2)) - oY (linP (ex k m v d))))
 ((metZ n (oX (linP (ex k2 m2 v2 d2))) (t1 - oY (linP (ex k2 m2 v2 d2)))
 (t2 - oY (linP (ex k2 m2 v2 d2)))
 ((metZ n (oX (linP (ex k m v d))) (s1 - oY (linP (ex k m v d)))
 (s2 - oY (linP (ex k m v d))) (e, f)).fst,
 (metZ n (oX (linP (ex k m v d))) (s1 - oY (linP (ex k m v d)))
 (s2 - oY (linP (ex k m v d))) (e, f)).snd)).fst,
 (metZ n (oX (linP (ex k2 m2 v2 d2))) (t1 - oY (linP (ex k2 m2 v2 d2)))
 (t2 - oY (linP (ex k2 m2 v2 d2)))
 ((metZ n (oX (linP (ex k m v d))) (s1 - oY (linP (ex k m v d)))
 (s2 - oY (linP (ex k m v d))) (e, f)).fst,
 (metZ n (oX (linP (ex k m v d))) (s1 - oY (linP (ex k m v d)))
 (s2 - oY (linP (ex k m v d))) (e, f)).snd)).snd)).snd
 (↑j : Int))])
 (List.range
 (itD
 (itD I.len n
 (metZ n (oX (linP (ex k m v d))) (s1 - oY (linP (ex k m v d))) (s2 - oY (linP (ex k m v d)))
 (e, f))).len
 n
 (metZ n (oX (linP (ex k2 m2 v2 d2))) (t1 - oY (linP (ex k2 m2 v2 d2))) (t2 - oY (linP (ex k2 m2 v2 d2)))
 ((metZ n (oX (linP (ex k m v d))) (s1 - oY (linP (ex k m v d))) (s2 - oY (linP (ex k m v d)))
 (e, f)).fst,
 (metZ n (oX (linP (ex k m v d))) (s1 - oY (linP (ex k m v d))) (s2 - oY (linP (ex k m v d)))
 (e, f)).snd))).len) =
 List.map
 (fun (j : Nat) =>
 [D.i
 (itvLo n (hldZ n op (ex k m v d) (ex k2 m2 v2 d2) (s1, s2) (t1, t2) (e, f)).fst
 (hldZ n op (ex k m v d) (ex k2 m2 v2 d2) (s1, s2) (t1, t2) (e, f)).snd (↑j : Int)),
 D.i
 (itvHi n (hldZ n op (ex k m v d) (ex k2 m2 v2 d2) (s1, s2) (t1, t2) (e, f)).fst
 (hldZ n op (ex k m v d) (ex k2 m2 v2 d2) (s1, s2) (t1, t2) (e, f)).snd (↑j : Int))])
 (List.range I.len) ∧
 n = n ∧
 (bdZ n op (oX (linP (ex k m v d))) (oX (linP (ex k2 m2 v2 d2)))
 (IntKind.i64.wrap (oY (linP (ex k2 m2 v2 d2)) - oY (linP (ex k m v d))))
 ((metZ n (oX (linP (ex k2 m2 v2 d2))) (t1 - oY (linP (ex k2 m2 v2 d2)))
 (t2 - oY (linP (ex k2 m2 v2 d2)))
 ((metZ n (oX (linP (ex k m v d))) (s1 - oY (linP (ex k m v d))) (s2 - oY (linP (ex k m v d)))
 (e, f)).fst,
 (metZ n (oX (linP (ex k m v d))) (s1 - oY (linP (ex k m v d))) (s2 - oY (linP (ex k m v d)))
 (e, f)).snd)).fst,
 (metZ n (oX (linP (ex k2 m2 v2 d2))) (t1 - oY (linP (ex k2 m2 v2 d2)))
 (t2 - oY (linP (ex k2 m2 v2 d2)))
 ((metZ n (oX (linP (ex k m v d))) (s1 - oY (linP (ex k m v d))) (s2 - oY (linP (ex k m v d)))
 (e, f)).fst,
 (metZ n (oX (linP (ex k m v d))) (s1 - oY (linP (ex k m v d))) (s2 - oY (linP (ex k m v d)))
 (e, f)).snd)).snd)).fst =
 (hldZ n op (ex k m v d) (ex k2 m2 v2 d2) (s1, s2) (t1, t2) (e, f)).fst ∧
 ∀ (o : Nat),
 o < nat_lit 49 →
 (bdZ n op (oX (linP (ex k m v d))) (oX (linP (ex k2 m2 v2 d2)))
 (IntKind.i64.wrap (oY (linP (ex k2 m2 v2 d2)) - oY (linP (ex k m v d))))
 ((metZ n (oX (linP (ex k2 m2 v2 d2))) (t1 - oY (linP (ex k2 m2 v2 d2)))
 (t2 - oY (linP (ex k2 m2 v2 d2)))
 ((metZ n (oX (linP (ex k m v d))) (s1 - oY (linP (ex k m v d)))
 (s2 - oY (linP (ex k m v d))) (e, f)).fst,
 (metZ n (oX (linP (ex k m v d))) (s1 - oY (linP (ex k m v d)))
 (s2 - oY (linP (ex k m v d))) (e, f)).snd)).fst,
 (metZ n (oX (linP (ex k2 m2 v2 d2))) (t1 - oY (linP (ex k2 m2 v2 d2)))
 (t2 - oY (linP (ex k2 m2 v2 d2)))
 ((metZ n (oX (linP (ex k m v d))) (s1 - oY (linP (ex k m v d)))
 (s2 - oY (linP (ex k m v d))) (e, f)).fst,
 (metZ n (oX (linP (ex k m v d))) (s1 - oY (linP (ex k m v d)))
 (s2 - oY (linP (ex k m v d))) (e, f)).snd)).snd)).snd
 o =
 (hldZ n op (ex k m v d) (ex k2 m2 v2 d2) (s1, s2) (t1, t2) (e, f)).snd o) ∧
 ((oB (linP (ex k m v d)) && oB (linP (ex k2 m2 v2 d2)) && oX (linP (ex k m v d)) != oX (linP (ex k2 m2 v2 d2))) = false →
 (metZ n (oX (linP (ex k2 m2 v2 d2))) (t1 - oY (linP (ex k2 m2 v2 d2))) (t2 - oY (linP (ex k2 m2 v2 d2)))
 ((metZ n (oX (linP (ex k m v d))) (s1 - oY (linP (ex k m v d))) (s2 - oY (linP (ex k m v d))) (e, f)).fst,
 (metZ n (oX (linP (ex k m v d))) (s1 - oY (linP (ex k m v d))) (s2 - oY (linP (ex k m v d))) (e, f)).snd)).fst =
 (hldZ n op (ex k m v d) (ex k2 m2 v2 d2) (s1, s2) (t1, t2) (e, f)).fst ∧
 List.map
 (fun (j : Nat) =>
 [D.i
 (itvLo n
 (metZ n (oX (linP (ex k2 m2 v2 d2))) (t1 - oY (linP (ex k2 m2 v2 d2))) (t2 - oY (linP (ex k2 m2 v2 d2)))
 ((metZ n (oX (linP (ex k m v d))) (s1 - oY (linP (ex k m v d))) (s2 - oY (linP (ex k m v d)))
 (e, f)).fst,
 (metZ n (oX (linP (ex k m v d))) (s1 - oY (linP (ex k m v d))) (s2 - oY (linP (ex k m v d)))
 (e, f)).snd)).fst
 (metZ n (oX (linP (ex k2 m2 v2 d2))) (t1 - oY (linP (ex k2 m2 v2 d2))) (t2 - oY (linP (ex k2 m2 v2 d2)))
 ((metZ n (oX (linP (ex k m v d))) (s1 - oY (linP (ex k m v d))) (s2 - oY (linP (ex k m v d)))
 (e, f)).fst,
 (metZ n (oX (linP (ex k m v d))) (s1 - oY (linP (ex k m v d))) (s2 - oY (linP (ex k m v d)))
 (e, f)).snd)).snd
 (↑j : Int)),
 D.i
 (itvHi n
 (metZ n (oX (linP (ex k2 m2 v2 d2))) (t1 - oY (linP (ex k2 m2 v2 d2))) (t2 - oY (linP (ex k2 m2 v2 d2)))
 ((metZ n (oX (linP (ex k m v d))) (s1 - oY (linP (ex k m v d))) (s2 - oY (linP (ex k m v d)))
 (e, f)).fst,
 (metZ n (oX (linP (ex k m v d))) (s1 - oY (linP (ex k m v d))) (s2 - oY (linP (ex k m v d)))
 (e, f)).snd)).fst
 (metZ n (oX (linP (ex k2 m2 v2 d2))) (t1 - oY (linP (ex k2 m2 v2 d2))) (t2 - oY (linP (ex k2 m2 v2 d2)))
 ((metZ n (oX (linP (ex k m v d))) (s1 - oY (linP (ex k m v d))) (s2 - oY (linP (ex k m v d)))
 (e, f)).fst,
 (metZ n (oX (linP (ex k m v d))) (s1 - oY (linP (ex k m v d))) (s2 - oY (linP (ex k m v d)))
 (e, f)).snd)).snd
 (↑j : Int))])
 (List.range
 (itD I.len n
 (metZ n (oX (linP (ex k m v d))) (s1 - oY (linP (ex k m v d))) (s2 - oY (linP (ex k m v d))) (e, f))).len) =
 List.map
 (fun (j : Nat) =>
 [D.i
 (itvLo n (hldZ n op (ex k m v d) (ex k2 m2 v2 d2) (s1, s2) (t1, t2) (e, f)).fst
 (hldZ n op (ex k m v d) (ex k2 m2 v2 d2) (s1, s2) (t1, t2) (e, f)).snd (↑j : Int)),
 D.i
 (itvHi n (hldZ n op (ex k m v d) (ex k2 m2 v2 d2) (s1, s2) (t1, t2) (e, f)).fst
 (hldZ n op (ex k m v d) (ex k2 m2 v2 d2) (s1, s2) (t1, t2) (e, f)).snd (↑j : Int))])
 (List.range I.len) ∧
 n = n ∧
 (metZ n (oX (linP (ex k2 m2 v2 d2))) (t1 - oY (linP (ex k2 m2 v2 d2))) (t2 - oY (linP (ex k2 m2 v2 d2)))
 ((metZ n (oX (linP (ex k m v d))) (s1 - oY (linP (ex k m v d))) (s2 - oY (linP (ex k m v d))) (e, f)).fst,
 (metZ n (oX (linP (ex k m v d))) (s1 - oY (linP (ex k m v d))) (s2 - oY (linP (ex k m v d)))
 (e, f)).snd)).fst =
 (hldZ n op (ex k m v d) (ex k2 m2 v2 d2) (s1, s2) (t1, t2) (e, f)).fst ∧
 ∀ (o : Nat),
 o < nat_lit 49 →
 (metZ n (oX (linP (ex k2 m2 v2 d2))) (t1 - oY (linP (ex k2 m2 v2 d2))) (t2 - oY (linP (ex k2 m2 v2 d2)))
 ((metZ n (oX (linP (ex k m v d))) (s1 - oY (linP (ex k m v d))) (s2 - oY (linP (ex k m v d)))
 (e, f)).fst,
 (metZ n (oX (linP (ex k m v d))) (s1 - oY (linP (ex k m v d))) (s2 - oY (linP (ex k m v d)))
 (e, f)).snd)).snd
 o =
 (hldZ n op (ex k m v d) (ex k2 m2 v2 d2) (s1, s2) (t1, t2) (e, f)).snd o)) ∧
 (oB (linP (ex k2 m2 v2 d2)) = false →
 ((oB (linP (ex k m v d)) && oB (linP (ex k2 m2 v2 d2)) && oX (linP (ex k m v d)) != oX (linP (ex k2 m2 v2 d2))) = true →
 NumOK n (metZ n (oX (linP (ex k m v d))) (s1 - oY (linP (ex k m v d))) (s2 - oY (linP (ex k m v d))) (e, f)).fst
 (itD I.len n (metZ n (oX (linP (ex k m v d))) (s1 - oY (linP (ex k m v d))) (s2 - oY (linP (ex k m v d))) (e, f)))
 (metZ n (oX (linP (ex k m v d))) (s1 - oY (linP (ex k m v d))) (s2 - oY (linP (ex k m v d))) (e, f)).fst
 (metZ n (oX (linP (ex k m v d))) (s1 - oY (linP (ex k m v d))) (s2 - oY (linP (ex k m v d))) (e, f)).snd ∧
 ((-2199023255552 : Int) ≤ IntKind.i64.wrap (oY (linP (ex k2 m2 v2 d2)) - oY (linP (ex k m v d))) ∧
 IntKind.i64.wrap (oY (linP (ex k2 m2 v2 d2)) - oY (linP (ex k m v d))) ≤ (2199023255552 : Int)) ∧
 (bdZ n op (oX (linP (ex k m v d))) (oX (linP (ex k2 m2 v2 d2)))
 (IntKind.i64.wrap (oY (linP (ex k2 m2 v2 d2)) - oY (linP (ex k m v d))))
 ((metZ n (oX (linP (ex k m v d))) (s1 - oY (linP (ex k m v d))) (s2 - oY (linP (ex k m v d))) (e, f)).fst,
 (metZ n (oX (linP (ex k m v d))) (s1 - oY (linP (ex k m v d))) (s2 - oY (linP (ex k m v d))) (e, f)).snd)).fst =
 (hldZ n op (ex k m v d) (ex k2 m2 v2 d2) (s1, s2) (t1, t2) (e, f)).fst ∧
 List.map
 (fun (j : Nat) =>
 [D.i
 (itvLo n
 (bdZ n op (oX (linP (ex k m v d))) (oX (linP (ex k2 m2 v2 d2)))
 (IntKind.i64.wrap (oY (linP (ex k2 m2 v2 d2)) - oY (linP (ex k m v d))))
 ((metZ n (oX (linP (ex k m v d))) (s1 - oY (linP (ex k m v d))) (s2 - oY (linP (ex k m v d))) (e, f)).fst,
 (metZ n (oX (linP (ex k m v d))) (s1 - oY (linP (ex k m v d))) (s2 - oY (linP (ex k m v d)))
 (e, f)).snd)).fst
 (bdZ n op (oX (linP (ex k m v d))) (oX (linP (ex k2 m2 v2 d2)))
 (IntKind.i64.wrap (oY (linP (ex k2 m2 v2 d2)) - oY (linP (ex k m v d))))
 ((metZ n (oX (linP (ex k m v d))) (s1 - oY (linP (ex k m v d))) (s2 - oY (linP (ex k m v d))) (e, f)).fst,
 (metZ n (oX (linP (ex k m v d))) (s1 - oY (linP (ex k m v d))) (s2 - oY (linP (ex k m v d)))
 (e, f)).snd)).snd
 (↑j : Int)),
 D.i
 (itvHi n
 (bdZ n op (oX (linP (ex k m v d))) (oX (linP (ex k2 m2 v2 d2)))
 (IntKind.i64.wrap (oY (linP (ex k2 m2 v2 d2)) - oY (linP (ex k m v d))))
 ((metZ n (oX (linP (ex k m v d))) (s1 - oY (linP (ex k m v d))) (s2 - oY (linP (ex k m v d))) (e, f)).fst,
 (metZ n (oX (linP (ex k m v d))) (s1 - oY (linP (ex k m v d))) (s2 - oY (linP (ex k m v d)))
 (e, f)).snd)).fst
 (bdZ n op (oX (linP (ex k m v d))) (oX (linP (ex k2 m2 v2 d2)))
 (IntKind.i64.wrap (oY (linP (ex k2 m2 v2 d2)) - oY (linP (ex k m v d))))
 ((metZ n (oX (linP (ex k m v d))) (s1 - oY (linP (ex k m v d))) (s2 - oY (linP (ex k m v d))) (e, f)).fst,
 (metZ n (oX (linP (ex k m v d))) (s1 - oY (linP (ex k m v d))) (s2 - oY (linP (ex k m v d)))
 (e, f)).snd)).snd
 (↑j : Int))])
 (List.range
 (itD I.len n
 (metZ n (oX (linP (ex k m v d))) (s1 - oY (linP (ex k m v d))) (s2 - oY (linP (ex k m v d))) (e, f))).len) =
 List.map
 (fun (j : Nat) =>
 [D.i
 (itvLo n (hldZ n op (ex k m v d) (ex k2 m2 v2 d2) (s1, s2) (t1, t2) (e, f)).fst
 (hldZ n op (ex k m v d) (ex k2 m2 v2 d2) (s1, s2) (t1, t2) (e, f)).snd (↑j : Int)),
 D.i
 (itvHi n (hldZ n op (ex k m v d) (ex k2 m2 v2 d2) (s1, s2) (t1, t2) (e, f)).fst
 (hldZ n op (ex k m v d) (ex k2 m2 v2 d2) (s1, s2) (t1, t2) (e, f)).snd (↑j : Int))])
 (List.range I.len) ∧
 n = n ∧
 (bdZ n op (oX (linP (ex k m v d))) (oX (linP (ex k2 m2 v2 d2)))
 (IntKind.i64.wrap (oY (linP (ex k2 m2 v2 d2)) - oY (linP (ex k m v d))))
 ((metZ n (oX (linP (ex k m v d))) (s1 - oY (linP (ex k m v d))) (s2 - oY (linP (ex k m v d))) (e, f)).fst,
 (metZ n (oX (linP (ex k m v d))) (s1 - oY (linP (ex k m v d))) (s2 - oY (linP (ex k m v d)))
 (e, f)).snd)).fst =
 (hldZ n op (ex k m v d) (ex k2 m2 v2 d2) (s1, s2) (t1, t2) (e, f)).fst ∧
 ∀ (o : Nat),
 o < nat_lit 49 →
 (bdZ n op (oX (linP (ex k m v d))) (oX (linP (ex k2 m2 v2 d2)))
 (IntKind.i64.wrap (oY (linP (ex k2 m2 v2 d2)) - oY (linP (ex k m v d))))
 ((metZ n (oX (linP (ex k m v d))) (s1 - oY (linP (ex k m v d))) (s2 - oY (linP (ex k m v d))) (e, f)).fst,
 (metZ n (oX (linP (ex k m v d))) (s1 - oY (linP (ex k m v d))) (s2 - oY (linP (ex k m v d)))
 (e, f)).snd)).snd
 o =
 (hldZ n op (ex k m v d) (ex k2 m2 v2 d2) (s1, s2) (t1, t2) (e, f)).snd o) ∧
 ((oB (linP (ex k m v d)) && oB (linP (ex k2 m2 v2 d2)) && oX (linP (ex k m v d)) != oX (linP (ex k2 m2 v2 d2))) = false →
 (metZ n (oX (linP (ex k m v d))) (s1 - oY (linP (ex k m v d))) (s2 - oY (linP (ex k m v d))) (e, f)).fst =
 (hldZ n op (ex k m v d) (ex k2 m2 v2 d2) (s1, s2) (t1, t2) (e, f)).fst ∧
 List.map
 (fun (j : Nat) =>
 [D.i
 (itvLo n (metZ n (oX (linP (ex k m v d))) (s1 - oY (linP (ex k m v d))) (s2 - oY (linP (ex k m v d))) (e, f)).fst
 (metZ n (oX (linP (ex k m v d))) (s1 - oY (linP (ex k m v d))) (s2 - oY (linP (ex k m v d))) (e, f)).snd
 (↑j : Int)),
 D.i
 (itvHi n (metZ n (oX (linP (ex k m v d))) (s1 - oY (linP (ex k m v d))) (s2 - oY (linP (ex k m v d))) (e, f)).fst
 (metZ n (oX (linP (ex k m v d))) (s1 - oY (linP (ex k m v d))) (s2 - oY (linP (ex k m v d))) (e, f)).snd
 (↑j : Int))])
 (List.range I.len) =
 List.map
 (fun (j : Nat) =>
 [D.i
 (itvLo n (hldZ n op (ex k m v d) (ex k2 m2 v2 d2) (s1, s2) (t1, t2) (e, f)).fst
 (hldZ n op (ex k m v d) (ex k2 m2 v2 d2) (s1, s2) (t1, t2) (e, f)).snd (↑j : Int)),
 D.i
 (itvHi n (hldZ n op (ex k m v d) (ex k2 m2 v2 d2) (s1, s2) (t1, t2) (e, f)).fst
 (hldZ n op (ex k m v d) (ex k2 m2 v2 d2) (s1, s2) (t1, t2) (e, f)).snd (↑j : Int))])
 (List.range I.len) ∧
 n = n ∧
 (metZ n (oX (linP (ex k m v d))) (s1 - oY (linP (ex k m v d))) (s2 - oY (linP (ex k m v d))) (e, f)).fst =
 (hldZ n op (ex k m v d) (ex k2 m2 v2 d2) (s1, s2) (t1, t2) (e, f)).fst ∧
 ∀ (o : Nat),
 o < nat_lit 49 →
 (metZ n (oX (linP (ex k m v d))) (s1 - oY (linP (ex k m v d))) (s2 - oY (linP (ex k m v d))) (e, f)).snd o =
 (hldZ n op (ex k m v d) (ex k2 m2 v2 d2) (s1, s2) (t1, t2) (e, f)).snd o))) ∧
 (oB (linP (ex k m v d)) = false →
 (oB (linP (ex k2 m2 v2 d2)) = true →
 Rz (t1, t2) ∧
 ((-1099511627776 : Int) ≤ oY (linP (ex k2 m2 v2 d2)) ∧ oY (linP (ex k2 m2 v2 d2)) ≤ (1099511627776 : Int)) ∧
 Good n (e, f) ∧
 I.len ≤ (1000 : Nat) ∧
 ((oB (linP (ex k m v d)) && oB (linP (ex k2 m2 v2 d2)) && oX (linP (ex k m v d)) != oX (linP (ex k2 m2 v2 d2))) = true →
 NumOK n (metZ n (oX (linP (ex k2 m2 v2 d2))) (t1 - oY (linP (ex k2 m2 v2 d2))) (t2 - oY (linP (ex k2 m2 v2 d2))) (e, f)).fst
 (itD I.len n (metZ n (oX (linP (ex k2 m2 v2 d2))) (t1 - oY (linP (ex k2 m2 v2 d2))) (t2 - oY (linP (ex k2 m2 v2 d2))) (e, f)))
 (metZ n (oX (linP (ex k2 m2 v2 d2))) (t1 - oY (linP (ex k2 m2 v2 d2))) (t2 - oY (linP (ex k2 m2 v2 d2))) (e, f)).fst
 (metZ n (oX (linP (ex k2 m2 v2 d2))) (t1 - oY (linP (ex k2 m2 v2 d2))) (t2 - oY (linP (ex k2 m2 v2 d2))) (e, f)).snd ∧
 ((-2199023255552 : Int) ≤ IntKind.i64.wrap (oY (linP (ex k2 m2 v2 d2)) - oY (linP (ex k m v d))) ∧
 IntKind.i64.wrap (oY (linP (ex k2 m2 v2 d2)) - oY (linP (ex k m v d))) ≤ (2199023255552 : Int)) ∧
 (bdZ n op (oX (linP (ex k m v d))) (oX (linP (ex k2 m2 v2 d2)))
 (IntKind.i64.wrap (oY (linP (ex k2 m2 v2 d2)) - oY (linP (ex k m v d))))
 ((metZ n (oX (linP (ex k2 m2 v2 d2))) (t1 - oY (linP (ex k2 m2 v2 d2))) (t2 - oY (linP (ex k2 m2 v2 d2))) (e, f)).fst,
 (metZ n (oX (linP (ex k2 m2 v2 d2))) (t1 - oY (linP (ex k2 m2 v2 d2))) (t2 - oY (linP (ex k2 m2 v2 d2)))
 (e, f)).snd)).fst =
 (hldZ n op (ex k m v d) (ex k2 m2 v2 d2) (s1, s2) (t1, t2) (e, f)).fst ∧
 List.map
 (fun (j : Nat) =>
 [D.i
 (itvLo n
 (bdZ n op (oX (linP (ex k m v d))) (oX (linP (ex k2 m2 v2 d2)))
 (IntKind.i64.wrap (oY (linP (ex k2 m2 v2 d2)) - oY (linP (ex k m v d))))
 ((metZ n (oX (linP (ex k2 m2 v2 d2))) (t1 - oY (linP (ex k2 m2 v2 d2))) (t2 - oY (linP (ex k2 m2 v2 d2)))
 (e, f)).fst,
 (metZ n (oX (linP (ex k2 m2 v2 d2))) (t1 - oY (linP (ex k2 m2 v2 d2))) (t2 - oY (linP (ex k2 m2 v2 d2)))
 (e, f)).snd)).fst
 (bdZ n op (oX (linP (ex k m v d))) (oX (linP (ex k2 m2 v2 d2)))
 (IntKind.i64.wrap (oY (linP (ex k2 m2 v2 d2)) - oY (linP (ex k m v d))))
 ((metZ n (oX (linP (ex k2 m2 v2 d2))) (t1 - oY (linP (ex k2 m2 v2 d2))) (t2 - oY (linP (ex k2 m2 v2 d2)))
 (e, f)).fst,
 (metZ n (oX (linP (ex k2 m2 v2 d2))) (t1 - oY (linP (ex k2 m2 v2 d2))) (t2 - oY (linP (ex k2 m2 v2 d2)))
 (e, f)).snd)).snd
 (↑j : Int)),
 D.i
 (itvHi n
 (bdZ n op (oX (linP (ex k m v d))) (oX (linP (ex k2 m2 v2 d2)))
 (IntKind.i64.wrap (oY (linP (ex k2 m2 v2 d2)) - oY (linP (ex k m v d))))
 ((metZ n (oX (linP (ex k2 m2 v2 d2))) (t1 - oY (linP (ex k2 m2 v2 d2))) (t2 - oY (linP (ex k2 m2 v2 d2)))
 (e, f)).fst,
 (metZ n (oX (linP (ex k2 m2 v2 d2))) (t1 - oY (linP (ex k2 m2 v2 d2))) (t2 - oY (linP (ex k2 m2 v2 d2)))
 (e, f)).snd)).fst
 (bdZ n op (oX (linP (ex k m v d))) (oX (linP (ex k2 m2 v2 d2)))
 (IntKind.i64.wrap (oY (linP (ex k2 m2 v2 d2)) - oY (linP (ex k m v d))))
 ((metZ n (oX (linP (ex k2 m2 v2 d2))) (t1 - oY (linP (ex k2 m2 v2 d2))) (t2 - oY (linP (ex k2 m2 v2 d2)))
 (e, f)).fst,
 (metZ n (oX (linP (ex k2 m2 v2 d2))) (t1 - oY (linP (ex k2 m2 v2 d2))) (t2 - oY (linP (ex k2 m2 v2 d2)))
 (e, f)).snd)).snd
 (↑j : Int))])
 (List.range
 (itD I.len n
 (metZ n (oX (linP (ex k2 m2 v2 d2))) (t1 - oY (linP (ex k2 m2 v2 d2))) (t2 - oY (linP (ex k2 m2 v2 d2)))
 (e, f))).len) =
 List.map
 (fun (j : Nat) =>
 [D.i
 (itvLo n (hldZ n op (ex k m v d) (ex k2 m2 v2 d2) (s1, s2) (t1, t2) (e, f)).fst
 (hldZ n op (ex k m v d) (ex k2 m2 v2 d2) (s1, s2) (t1, t2) (e, f)).snd (↑j : Int)),
 D.i
 (itvHi n (hldZ n op (ex k m v d) (ex k2 m2 v2 d2) (s1, s2) (t1, t2) (e, f)).fst
 (hldZ n op (ex k m v d) (ex k2 m2 v2 d2) (s1, s2) (t1, t2) (e, f)).snd (↑j : Int))])
 (List.range I.len) ∧
 n = n ∧
 (bdZ n op (oX (linP (ex k m v d))) (oX (linP (ex k2 m2 v2 d2)))
 (IntKind.i64.wrap (oY (linP (ex k2 m2 v2 d2)) - oY (linP (ex k m v d))))
 ((metZ n (oX (linP (ex k2 m2 v2 d2))) (t1 - oY (linP (ex k2 m2 v2 d2))) (t2 - oY (linP (ex k2 m2 v2 d2)))
 (e, f)).fst,
 (metZ n (oX (linP (ex k2 m2 v2 d2))) (t1 - oY (linP (ex k2 m2 v2 d2))) (t2 - oY (linP (ex k2 m2 v2 d2)))
 (e, f)).snd)).fst =
 (hldZ n op (ex k m v d) (ex k2 m2 v2 d2) (s1, s2) (t1, t2) (e, f)).fst ∧
 ∀ (o : Nat),
 o < nat_lit 49 →
 (bdZ n op (oX (linP (ex k m v d))) (oX (linP (ex k2 m2 v2 d2)))
 (IntKind.i64.wrap (oY (linP (ex k2 m2 v2 d2)) - oY (linP (ex k m v d))))
 ((metZ n (oX (linP (ex k2 m2 v2 d2))) (t1 - oY (linP (ex k2 m2 v2 d2))) (t2 - oY (linP (ex k2 m2 v2 d2)))
 (e, f)).fst,
 (metZ n (oX (linP (ex k2 m2 v2 d2))) (t1 - oY (linP (ex k2 m2 v2 d2))) (t2 - oY (linP (ex k2 m2 v2 d2)))
 (e, f)).snd)).snd
 o =
 (hldZ n op (ex k m v d) (ex k2 m2 v2 d2) (s1, s2) (t1, t2) (e, f)).snd o) ∧
 ((oB (linP (ex k m v d)) && oB (linP (ex k2 m2 v2 d2)) && oX (linP (ex k m v d)) != oX (linP (ex k2 m2 v2 d2))) = false →
 (metZ n (oX (linP (ex k2 m2 v2 d2))) (t1 - oY (linP (ex k2 m2 v2 d2))) (t2 - oY (linP (ex k2 m2 v2 d2))) (e, f)).fst =
 (hldZ n op (ex k m v d) (ex k2 m2 v2 d2) (s1, s2) (t1, t2) (e, f)).fst ∧
 List.map
 (fun (j : Nat) =>
 [D.i
 (itvLo n
 (metZ n (oX (linP (ex k2 m2 v2 d2))) (t1 - oY (linP (ex k2 m2 v2 d2))) (t2 - oY (linP (ex k2 m2 v2 d2)))
 (e, f)).fst
 (metZ n (oX (linP (ex k2 m2 v2 d2))) (t1 - oY (linP (ex k2 m2 v2 d2))) (t2 - oY (linP (ex k2 m2 v2 d2)))
 (e, f)).snd
 (↑j : Int)),
 D.i
 (itvHi n
 (metZ n (oX (linP (ex k2 m2 v2 d2))) (t1 - oY (linP (ex k2 m2 v2 d2))) (t2 - oY (linP (ex k2 m2 v2 d2)))
 (e, f)).fst
 (metZ n (oX (linP (ex k2 m2 v2 d2))) (t1 - oY (linP (ex k2 m2 v2 d2))) (t2 - oY (linP (ex k2 m2 v2 d2)))
 (e, f)).snd
 (↑j : Int))])
 (List.range I.len) =
 List.map
 (fun (j : Nat) =>
 [D.i
 (itvLo n (hldZ n op (ex k m v d) (ex k2 m2 v2 d2) (s1, s2) (t1, t2) (e, f)).fst
 (hldZ n op (ex k m v d) (ex k2 m2 v2 d2) (s1, s2) (t1, t2) (e, f)).snd (↑j : Int)),
 D.i
 (itvHi n (hldZ n op (ex k m v d) (ex k2 m2 v2 d2) (s1, s2) (t1, t2) (e, f)).fst
 (hldZ n op (ex k m v d) (ex k2 m2 v2 d2) (s1, s2) (t1, t2) (e, f)).snd (↑j : Int))])
 (List.range I.len) ∧
 n = n ∧
 (metZ n (oX (linP (ex k2 m2 v2 d2))) (t1 - oY (linP (ex k2 m2 v2 d2))) (t2 - oY (linP (ex k2 m2 v2 d2))) (e, f)).fst =
 (hldZ n op (ex k m v d) (ex k2 m2 v2 d2) (s1, s2) (t1, t2) (e, f)).fst ∧
 ∀ (o : Nat),
 o < nat_lit 49 →
 (metZ n (oX (linP (ex k2 m2 v2 d2))) (t1 - oY (linP (ex k2 m2 v2 d2))) (t2 - oY (linP (ex k2 m2 v2 d2))) (e, f)).snd
 o =
 (hldZ n op (ex k m v d) (ex k2 m2 v2 d2) (s1, s2) (t1, t2) (e, f)).snd o)) ∧
 (oB (linP (ex k2 m2 v2 d2)) = false →
 ((oB (linP (ex k m v d)) && oB (linP (ex k2 m2 v2 d2)) && oX (linP (ex k m v d)) != oX (linP (ex k2 m2 v2 d2))) = true →
 NumOK n c I e f ∧
 ((-2199023255552 : Int) ≤ IntKind.i64.wrap (oY (linP (ex k2 m2 v2 d2)) - oY (linP (ex k m v d))) ∧
 IntKind.i64.wrap (oY (linP (ex k2 m2 v2 d2)) - oY (linP (ex k m v d))) ≤ (2199023255552 : Int)) ∧
 (bdZ n op (oX (linP (ex k m v d))) (oX (linP (ex k2 m2 v2 d2)))
 (IntKind.i64.wrap (oY (linP (ex k2 m2 v2 d2)) - oY (linP (ex k m v d)))) (e, f)).fst =
 (hldZ n op (ex k m v d) (ex k2 m2 v2 d2) (s1, s2) (t1, t2) (e, f)).fst ∧
 List.map
 (fun (j : Nat) =>
 [D.i
 (itvLo n
 (bdZ n op (oX (linP (ex k m v d))) (oX (linP (ex k2 m2 v2 d2)))
 (IntKind.i64.wrap (oY (linP (ex k2 m2 v2 d2)) - oY (linP (ex k m v d)))) (e, f)).fst
 (bdZ n op (oX (linP (ex k m v d))) (oX (linP (ex k2 m2 v2 d2)))
 (IntKind.i64.wrap (oY (linP (ex k2 m2 v2 d2)) - oY (linP (ex k m v d)))) (e, f)).snd
 (↑j : Int)),
 D.i
 (itvHi n
 (bdZ n op (oX (linP (ex k m v d))) (oX (linP (ex k2 m2 v2 d2)))
 (IntKind.i64.wrap (oY (linP (ex k2 m2 v2 d2)) - oY (linP (ex k m v d)))) (e, f)).fst
 (bdZ n op (oX (linP (ex k m v d))) (oX (linP (ex k2 m2 v2 d2)))
 (IntKind.i64.wrap (oY (linP (ex k2 m2 v2 d2)) - oY (linP (ex k m v d)))) (e, f)).snd
 (↑j : Int))])
 (List.range I.len) =
 List.map
 (fun (j : Nat) =>
 [D.i
 (itvLo n (hldZ n op (ex k m v d) (ex k2 m2 v2 d2) (s1, s2) (t1, t2) (e, f)).fst
 (hldZ n op (ex k m v d) (ex k2 m2 v2 d2) (s1, s2) (t1, t2) (e, f)).snd (↑j : Int)),
 D.i
 (itvHi n (hldZ n op (ex k m v d) (ex k2 m2 v2 d2) (s1, s2) (t1, t2) (e, f)).fst
 (hldZ n op (ex k m v d) (ex k2 m2 v2 d2) (s1, s2) (t1, t2) (e, f)).snd (↑j : Int))])
 (List.range I.len) ∧
 n = n ∧
 (bdZ n op (oX (linP (ex k m v d))) (oX (linP (ex k2 m2 v2 d2)))
 (IntKind.i64.wrap (oY (linP (ex k2 m2 v2 d2)) - oY (linP (ex k m v d)))) (e, f)).fst =
 (hldZ n op (ex k m v d) (ex k2 m2 v2 d2) (s1, s2) (t1, t2) (e, f)).fst ∧
 ∀ (o : Nat),
 o < nat_lit 49 →
 (bdZ n op (oX (linP (ex k m v d))) (oX (linP (ex k2 m2 v2 d2)))
 (IntKind.i64.wrap (oY (linP (ex k2 m2 v2 d2)) - oY (linP (ex k m v d)))) (e, f)).snd
 o =
 (hldZ n op (ex k m v d) (ex k2 m2 v2 d2) (s1, s2) (t1, t2) (e, f)).snd o) ∧
 ((oB (linP (ex k m v d)) && oB (linP (ex k2 m2 v2 d2)) && oX (linP (ex k m v d)) != oX (linP (ex k2 m2 v2 d2))) = false →
 c = (hldZ n op (ex k m v d) (ex k2 m2 v2 d2) (s1, s2) (t1, t2) (e, f)).fst ∧
 I.rows =
 List.map
 (fun (j : Nat) =>
 [D.i
 (itvLo n (hldZ n op (ex k m v d) (ex k2 m2 v2 d2) (s1, s2) (t1, t2) (e, f)).fst
 (hldZ n op (ex k m v d) (ex k2 m2 v2 d2) (s1, s2) (t1, t2) (e, f)).snd (↑j : Int)),
 D.i
 (itvHi n (hldZ n op (ex k m v d) (ex k2 m2 v2 d2) (s1, s2) (t1, t2) (e, f)).fst
 (hldZ n op (ex k m v d) (ex k2 m2 v2 d2) (s1, s2) (t1, t2) (e, f)).snd (↑j : Int))])
 (List.range I.len) ∧
 n = n ∧
 e = (hldZ n op (ex k m v d) (ex k2 m2 v2 d2) (s1, s2) (t1, t2) (e, f)).fst ∧
 ∀ (o : Nat), o < nat_lit 49 → f o = (hldZ n op (ex k m v d) (ex k2 m2 v2 d2) (s1, s2) (t1, t2) (e, f)).snd o)))) (by kernel_rfl) ?_
    intro h hn hs ht
    have hz := h.good
    have hle := h.le
    have hpos : 0 < I.len := by rw [h.len]; omega
    have hlen := h.len
    have hL := @lin_in (ex k m v d)
    have hR := @lin_in (ex k2 m2 v2 d2)
    have hI := h.rows
    have hc := h.c
    unfold hldZ
    generalize linP (ex k m v d) = L at *
    generalize linP (ex k2 m2 v2 d2) = R at *
    simp only [itD_len, hlen] at *
    rcases L with _ | ⟨x, a⟩ <;> rcases R with _ | ⟨y, b⟩ <;> simp only [oX_some, oY_some, oB_some, oX_none, oY_none, oB_none, Bool.false_eq_true, false_implies, true_implies, and_true, true_and, Bool.and_false, Bool.false_and, Bool.and_self, Bool.true_eq_false]
    · exact ⟨⟨hpos, hle⟩, hc, hI, fun _ _ => trivial⟩
    · exact ⟨⟨hpos, hle⟩, ht, hR rfl, hz, hle, fun _ _ => trivial⟩
    · exact ⟨⟨hpos, hle⟩, hs, hL rfl, hz, hle, fun _ _ => trivial⟩
    · have hb := hR rfl
      have ha := hL rfl
      have w : IntKind.i64.wrap (b - a) = b - a := wr _ (by omega)
      rw [w]
      have g1 := good_met hz x (s1 - a) (s2 - a)
      have g2 := good_met g1 y (t1 - b) (t2 - b)
      refine ⟨⟨hpos, hle⟩, hs, ha, hz, hle, ht, hb, g1, hle, fun c => ?_, fun c => ?_⟩
      · have c : x ≠ y := by simpa using c
        rw [if_pos c]; exact ⟨numOK_of g2, by omega, rfl, rfl, rfl, fun _ _ => rfl⟩
      · have c : ¬ x ≠ y := by simpa using c
        rw [if_neg c]; exact ⟨rfl, rfl, rfl, fun _ _ => rfl⟩
  · trivial
noncomputable def assumeS : FSpec := fun ds _ => match ds with
  | [.b c, .d I, .i n, .b e, .f f, .i op, .i k, .i m, .i v, .d d, .i k2, .i m2, .i v2, .d d2] => some { val := .tup [.agg [.c (.bool (.sym ((asmZ n op (ex k m v d) (ex k2 m2 v2 d2) (e, f)).1 : Zs).1)), .c (.rows 48 (itD (n.toNat) (n) ((asmZ n op (ex k m v d) (ex k2 m2 v2 d2) (e, f)).1))), .c (.int .i64 (.sym (n))), .c (.bool (.sym ((asmZ n op (ex k m v d) (ex k2 m2 v2 d2) (e, f)).1 : Zs).1)), .ints .i64 (.lit 49) ((asmZ n op (ex k m v d) (ex k2 m2 v2 d2) (e, f)).1 : Zs).2], .agg [.c (.bool (.sym ((asmZ n op (ex k m v d) (ex k2 m2 v2 d2) (e, f)).2).1)), .c (.bool (.sym ((asmZ n op (ex k m v d) (ex k2 m2 v2 d2) (e, f)).2).2))]], vc := [NumOK n c I e f, 0 < n] }
  | _ => none
noncomputable def assumeC : Con := con [numA, .agg [.c (.int .i64), .c (.int .i64), .c (.int .i64), .c (.int .i64), .c (.rows 32), .c (.int .i64), .c (.int .i64), .c (.int .i64), .c (.rows 32)]] assumeS
theorem assume_ok : ConOK Try.prog 49 assumeC := by
  refine fn_ob tt_ok mixed Try.func49 rfl (fun _ _ => by kernel_rfl) (A := fun ds => ⟨fun _ => Cons.of [(51, nnoneC), (92, ebothNC), (93, itestC), (46, emptyC), (94, heldC)], fun _ => none, fun _ => none⟩) (fun _ _ => (cons_cons nnone_ok (cons_cons ebothN_ok (cons_cons itest_ok (cons_cons empty_ok (cons_cons held_ok cons_nil)))))) (by kernel_rfl) ?_
  intro ds fr
  unfold assumeS
  split
  · rename_i c I n e f op k m v d k2 m2 v2 d2
    refine kmp (q := NumOK n c I e f →
 (0 : Int) < n →
 (c = true →
 true = (asmZ n op (ex k m v d) (ex k2 m2 v2 d2) (e, f)).fst.fst ∧
 List.map
 (fun (j : Nat) =>
 [D.i (itvLo (topN (↑I.len : Int)) true (fun (x : Nat) => (0 : Int)) (↑j : Int)),
 D.i (itvHi (topN (↑I.len : Int)) true (fun (x : Nat) => (0 : Int)) (↑j : Int))])
 (List.range (topN (↑I.len : Int)).toNat) =
 List.map
 (fun (j : Nat) =>
 [D.i (itvLo n (asmZ n op (ex k m v d) (ex k2 m2 v2 d2) (e, f)).fst.fst (asmZ n op (ex k m v d) (ex k2 m2 v2 d2) (e, f)).fst.snd (↑j : Int)),
 D.i (itvHi n (asmZ n op (ex k m v d) (ex k2 m2 v2 d2) (e, f)).fst.fst (asmZ n op (ex k m v d) (ex k2 m2 v2 d2) (e, f)).fst.snd (↑j : Int))])
 (List.range n.toNat) ∧
 topN (↑I.len : Int) = n ∧
 true = (asmZ n op (ex k m v d) (ex k2 m2 v2 d2) (e, f)).fst.fst ∧
 (∀ (o : Nat), o < nat_lit 49 → (0 : Int) = (asmZ n op (ex k m v d) (ex k2 m2 v2 d2) (e, f)).fst.snd o) ∧
 false = (asmZ n op (ex k m v d) (ex k2 m2 v2 d2) (e, f)).snd.fst ∧ false = (asmZ n op (ex k m v d) (ex k2 m2 v2 d2) (e, f)).snd.snd) ∧
 (c = false →
 RgI I ∧
 Rg ((bothI (recP I (ex k m v d)) (recP I (ex k2 m2 v2 d2))).fst.fst, (bothI (recP I (ex k m v d)) (recP I (ex k2 m2 v2 d2))).fst.snd) ∧
 Rg ((bothI (recP I (ex k m v d)) (recP I (ex k2 m2 v2 d2))).snd.fst.fst, (bothI (recP I (ex k m v d)) (recP I (ex k2 m2 v2 d2))).snd.fst.snd) ∧
 ((decide
 ((tstI op
 ((bothI (recP I (ex k m v d)) (recP I (ex k2 m2 v2 d2))).fst.fst,
 (bothI (recP I (ex k m v d)) (recP I (ex k2 m2 v2 d2))).fst.snd)
 ((bothI (recP I (ex k m v d)) (recP I (ex k2 m2 v2 d2))).snd.fst.fst,
 (bothI (recP I (ex k m v d)) (recP I (ex k2 m2 v2 d2))).snd.fst.snd)).fst.snd <
 (tstI op
 ((bothI (recP I (ex k m v d)) (recP I (ex k2 m2 v2 d2))).fst.fst,
 (bothI (recP I (ex k m v d)) (recP I (ex k2 m2 v2 d2))).fst.snd)
 ((bothI (recP I (ex k m v d)) (recP I (ex k2 m2 v2 d2))).snd.fst.fst,
 (bothI (recP I (ex k m v d)) (recP I (ex k2 m2 v2 d2))).snd.fst.snd)).fst.fst) ||
 decide
 ((tstI op
 ((bothI (recP I (ex k m v d)) (recP I (ex k2 m2 v2 d2))).fst.fst,
 (bothI (recP I (ex k m v d)) (recP I (ex k2 m2 v2 d2))).fst.snd)
 ((bothI (recP I (ex k m v d)) (recP I (ex k2 m2 v2 d2))).snd.fst.fst,
 (bothI (recP I (ex k m v d)) (recP I (ex k2 m2 v2 d2))).snd.fst.snd)).snd.snd <
 (tstI op
 ((bothI (recP I (ex k m v d)) (recP I (ex k2 m2 v2 d2))).fst.fst,
 (bothI (recP I (ex k m v d)) (recP I (ex k2 m2 v2 d2))).fst.snd)
 ((bothI (recP I (ex k m v d)) (recP I (ex k2 m2 v2 d2))).snd.fst.fst,
 (bothI (recP I (ex k m v d)) (recP I (ex k2 m2 v2 d2))).snd.fst.snd)).snd.fst)) =
 true →
 true = (asmZ n op (ex k m v d) (ex k2 m2 v2 d2) (e, f)).fst.fst ∧
 List.map
 (fun (j : Nat) =>
 [D.i (itvLo (topN (↑I.len : Int)) true (fun (x : Nat) => (0 : Int)) (↑j : Int)),
 D.i (itvHi (topN (↑I.len : Int)) true (fun (x : Nat) => (0 : Int)) (↑j : Int))])
 (List.range (topN (↑I.len : Int)).toNat) =
 List.map
 (fun (j : Nat) =>
 [D.i
 (itvLo n (asmZ n op (ex k m v d) (ex k2 m2 v2 d2) (e, f)).fst.fst (asmZ n op (ex k m v d) (ex k2 m2 v2 d2) (e, f)).fst.snd
 (↑j : Int)),
 D.i
 (itvHi n (asmZ n op (ex k m v d) (ex k2 m2 v2 d2) (e, f)).fst.fst (asmZ n op (ex k m v d) (ex k2 m2 v2 d2) (e, f)).fst.snd
 (↑j : Int))])
 (List.range n.toNat) ∧
 topN (↑I.len : Int) = n ∧
 true = (asmZ n op (ex k m v d) (ex k2 m2 v2 d2) (e, f)).fst.fst ∧
 (∀ (o : Nat), o < nat_lit 49 → (0 : Int) = (asmZ n op (ex k m v d) (ex k2 m2 v2 d2) (e, f)).fst.snd o) ∧
 (bothI (recP I (ex k m v d)) (recP I (ex k2 m2 v2 d2))).snd.snd.fst = (asmZ n op (ex k m v d) (ex k2 m2 v2 d2) (e, f)).snd.fst ∧
 (bothI (recP I (ex k m v d)) (recP I (ex k2 m2 v2 d2))).snd.snd.snd = (asmZ n op (ex k m v d) (ex k2 m2 v2 d2) (e, f)).snd.snd) ∧
 ((decide
 ((tstI op
 ((bothI (recP I (ex k m v d)) (recP I (ex k2 m2 v2 d2))).fst.fst,
 (bothI (recP I (ex k m v d)) (recP I (ex k2 m2 v2 d2))).fst.snd)
 ((bothI (recP I (ex k m v d)) (recP I (ex k2 m2 v2 d2))).snd.fst.fst,
 (bothI (recP I (ex k m v d)) (recP I (ex k2 m2 v2 d2))).snd.fst.snd)).fst.snd <
 (tstI op
 ((bothI (recP I (ex k m v d)) (recP I (ex k2 m2 v2 d2))).fst.fst,
 (bothI (recP I (ex k m v d)) (recP I (ex k2 m2 v2 d2))).fst.snd)
 ((bothI (recP I (ex k m v d)) (recP I (ex k2 m2 v2 d2))).snd.fst.fst,
 (bothI (recP I (ex k m v d)) (recP I (ex k2 m2 v2 d2))).snd.fst.snd)).fst.fst) ||
 decide
 ((tstI op
 ((bothI (recP I (ex k m v d)) (recP I (ex k2 m2 v2 d2))).fst.fst,
 (bothI (recP I (ex k m v d)) (recP I (ex k2 m2 v2 d2))).fst.snd)
 ((bothI (recP I (ex k m v d)) (recP I (ex k2 m2 v2 d2))).snd.fst.fst,
 (bothI (recP I (ex k m v d)) (recP I (ex k2 m2 v2 d2))).snd.fst.snd)).snd.snd <
 (tstI op
 ((bothI (recP I (ex k m v d)) (recP I (ex k2 m2 v2 d2))).fst.fst,
 (bothI (recP I (ex k m v d)) (recP I (ex k2 m2 v2 d2))).fst.snd)
 ((bothI (recP I (ex k m v d)) (recP I (ex k2 m2 v2 d2))).snd.fst.fst,
 (bothI (recP I (ex k m v d)) (recP I (ex k2 m2 v2 d2))).snd.fst.snd)).snd.fst)) =
 false →
 NumOK n c I e f ∧
 (0 : Int) < n ∧
 Rz
 ((tstI op
 ((bothI (recP I (ex k m v d)) (recP I (ex k2 m2 v2 d2))).fst.fst,
 (bothI (recP I (ex k m v d)) (recP I (ex k2 m2 v2 d2))).fst.snd)
 ((bothI (recP I (ex k m v d)) (recP I (ex k2 m2 v2 d2))).snd.fst.fst,
 (bothI (recP I (ex k m v d)) (recP I (ex k2 m2 v2 d2))).snd.fst.snd)).fst.fst,
 (tstI op
 ((bothI (recP I (ex k m v d)) (recP I (ex k2 m2 v2 d2))).fst.fst,
 (bothI (recP I (ex k m v d)) (recP I (ex k2 m2 v2 d2))).fst.snd)
 ((bothI (recP I (ex k m v d)) (recP I (ex k2 m2 v2 d2))).snd.fst.fst,
 (bothI (recP I (ex k m v d)) (recP I (ex k2 m2 v2 d2))).snd.fst.snd)).fst.snd) ∧
 Rz
 ((tstI op
 ((bothI (recP I (ex k m v d)) (recP I (ex k2 m2 v2 d2))).fst.fst,
 (bothI (recP I (ex k m v d)) (recP I (ex k2 m2 v2 d2))).fst.snd)
 ((bothI (recP I (ex k m v d)) (recP I (ex k2 m2 v2 d2))).snd.fst.fst,
 (bothI (recP I (ex k m v d)) (recP I (ex k2 m2 v2 d2))).snd.fst.snd)).snd.fst,
 (tstI op
 ((bothI (recP I (ex k m v d)) (recP I (ex k2 m2 v2 d2))).fst.fst,
 (bothI (recP I (ex k m v d)) (recP I (ex k2 m2 v2 d2))).fst.snd)
 ((bothI (recP I (ex k m v d)) (recP I (ex k2 m2 v2 d2))).snd.fst.fst,
 (bothI (recP I (ex k m v d)) (recP I (ex k2 m2 v2 d2))).snd.fst.snd)).snd.snd) ∧
 (hldZ n op (ex k m v d) (ex k2 m2 v2 d2)
 ((tstI op
 ((bothI (recP I (ex k m v d)) (recP I (ex k2 m2 v2 d2))).fst.fst,
 (bothI (recP I (ex k m v d)) (recP I (ex k2 m2 v2 d2))).fst.snd)
 ((bothI (recP I (ex k m v d)) (recP I (ex k2 m2 v2 d2))).snd.fst.fst,
 (bothI (recP I (ex k m v d)) (recP I (ex k2 m2 v2 d2))).snd.fst.snd)).fst.fst,
 (tstI op
 ((bothI (recP I (ex k m v d)) (recP I (ex k2 m2 v2 d2))).fst.fst,
 (bothI (recP I (ex k m v d)) (recP I (ex k2 m2 v2 d2))).fst.snd)
 ((bothI (recP I (ex k m v d)) (recP I (ex k2 m2 v2 d2))).snd.fst.fst,
 (bothI (recP I (ex k m v d)) (recP I (ex k2 m2 v2 d2))).snd.fst.snd)).fst.snd)
 ((tstI op
 ((bothI (recP I (ex k m v d)) (recP I (ex k2 m2 v2 d2))).fst.fst,
 (bothI (recP I (ex k m v d)) (recP I (ex k2 m2 v2 d2))).fst.snd)
 ((bothI (recP I (ex k m v d)) (recP I (ex k2 m2 v2 d2))).snd.fst.fst,
 (bothI (recP I (ex k m v d)) (recP I (ex k2 m2 v2 d2))).snd.fst.snd)).snd.fst,
 (tstI op
 ((bothI (recP I (ex k m v d)) (recP I (ex k2 m2 v2 d2))).fst.fst,
 (bothI (recP I (ex k m v d)) (recP I (ex k2 m2 v2 d2))).fst.snd)
 ((bothI (recP I (ex k m v d)) (recP I (ex k2 m2 v2 d2))).snd.fst.fst,
 (bothI (recP I (ex k m v d)) (recP I (ex k2 m2 v2 d2))).snd.fst.snd)).snd.snd)
 (e, f)).fst =
 (asmZ n op (ex k m v d) (ex k2 m2 v2 d2) (e, f)).fst.fst ∧
 List.map
 (fun (j : Nat) =>
 [D.i
 (itvLo n
 (hldZ n op (ex k m v d) (ex k2 m2 v2 d2)
 ((tstI op
 ((bothI (recP I (ex k m v d)) (recP I (ex k2 m2 v2 d2))).fst.fst,
 (bothI (recP I (ex k m v d)) (recP I (ex k2 m2 v2 d2))).fst.snd)
 ((bothI (recP I (ex k m v d)) (recP I (ex k2 m2 v2 d2))).snd.fst.fst,
 (bothI (recP I (ex k m v d)) (recP I (ex k2 m2 v2 d2))).snd.fst.snd)).fst.fst,
 (tstI op
 ((bothI (recP I (ex k m v d)) (recP I (ex k2 m2 v2 d2))).fst.fst,
 (bothI (recP I (ex k m v d)) (recP I (ex k2 m2 v2 d2))).fst.snd)
 ((bothI (recP I (ex k m v d)) (recP I (ex k2 m2 v2 d2))).snd.fst.fst,
 (bothI (recP I (ex k m v d)) (recP I (ex k2 m2 v2 d2))).snd.fst.snd)).fst.snd)
 ((tstI op
 ((bothI (recP I (ex k m v d)) (recP I (ex k2 m2 v2 d2))).fst.fst,
 (bothI (recP I (ex k m v d)) (recP I (ex k2 m2 v2 d2))).fst.snd)
 ((bothI (recP I (ex k m v d)) (recP I (ex k2 m2 v2 d2))).snd.fst.fst,
 (bothI (recP I (ex k m v d)) (recP I (ex k2 m2 v2 d2))).snd.fst.snd)).snd.fst,
 (tstI op
 ((bothI (recP I (ex k m v d)) (recP I (ex k2 m2 v2 d2))).fst.fst,
 (bothI (recP I (ex k m v d)) (recP I (ex k2 m2 v2 d2))).fst.snd)
 ((bothI (recP I (ex k m v d)) (recP I (ex k2 m2 v2 d2))).snd.fst.fst,
 (bothI (recP I (ex k m v d)) (recP I (ex k2 m2 v2 d2))).snd.fst.snd)).snd.snd)
 (e, f)).fst
 (hldZ n op (ex k m v d) (ex k2 m2 v2 d2)
 ((tstI op
 ((bothI (recP I (ex k m v d)) (recP I (ex k2 m2 v2 d2))).fst.fst,
 (bothI (recP I (ex k m v d)) (recP I (ex k2 m2 v2 d2))).fst.snd)
 ((bothI (recP I (ex k m v d)) (recP I (ex k2 m2 v2 d2))).snd.fst.fst,
 (bothI (recP I (ex k m v d)) (recP I (ex k2 m2 v2 d2))).snd.fst.snd)).fst.fst,
 (tstI op
 ((bothI (recP I (ex k m v d)) (recP I (ex k2 m2 v2 d2))).fst.fst,
 (bothI (recP I (ex k m v d)) (recP I (ex k2 m2 v2 d2))).fst.snd)
 ((bothI (recP I (ex k m v d)) (recP I (ex k2 m2 v2 d2))).snd.fst.fst,
 (bothI (recP I (ex k m v d)) (recP I (ex k2 m2 v2 d2))).snd.fst.snd)).fst.snd)
 ((tstI op
 ((bothI (recP I (ex k m v d)) (recP I (ex k2 m2 v2 d2))).fst.fst,
 (bothI (recP I (ex k m v d)) (recP I (ex k2 m2 v2 d2))).fst.snd)
 ((bothI (recP I (ex k m v d)) (recP I (ex k2 m2 v2 d2))).snd.fst.fst,
 (bothI (recP I (ex k m v d)) (recP I (ex k2 m2 v2 d2))).snd.fst.snd)).snd.fst,
 (tstI op
 ((bothI (recP I (ex k m v d)) (recP I (ex k2 m2 v2 d2))).fst.fst,
 (bothI (recP I (ex k m v d)) (recP I (ex k2 m2 v2 d2))).fst.snd)
 ((bothI (recP I (ex k m v d)) (recP I (ex k2 m2 v2 d2))).snd.fst.fst,
 (bothI (recP I (ex k m v d)) (recP I (ex k2 m2 v2 d2))).snd.fst.snd)).snd.snd)
 (e, f)).snd
 (↑j : Int)),
 D.i
 (itvHi n
 (hldZ n op (ex k m v d) (ex k2 m2 v2 d2)
 ((tstI op
 ((bothI (recP I (ex k m v d)) (recP I (ex k2 m2 v2 d2))).fst.fst,
 (bothI (recP I (ex k m v d)) (recP I (ex k2 m2 v2 d2))).fst.snd)
 ((bothI (recP I (ex k m v d)) (recP I (ex k2 m2 v2 d2))).snd.fst.fst,
 (bothI (recP I (ex k m v d)) (recP I (ex k2 m2 v2 d2))).snd.fst.snd)).fst.fst,
 (tstI op
 ((bothI (recP I (ex k m v d)) (recP I (ex k2 m2 v2 d2))).fst.fst,
 (bothI (recP I (ex k m v d)) (recP I (ex k2 m2 v2 d2))).fst.snd)
 ((bothI (recP I (ex k m v d)) (recP I (ex k2 m2 v2 d2))).snd.fst.fst,
 (bothI (recP I (ex k m v d)) (recP I (ex k2 m2 v2 d2))).snd.fst.snd)).fst.snd)
 ((tstI op
 ((bothI (recP I (ex k m v d)) (recP I (ex k2 m2 v2 d2))).fst.fst,
 (bothI (recP I (ex k m v d)) (recP I (ex k2 m2 v2 d2))).fst.snd)
 ((bothI (recP I (ex k m v d)) (recP I (ex k2 m2 v2 d2))).snd.fst.fst,
 (bothI (recP I (ex k m v d)) (recP I (ex k2 m2 v2 d2))).snd.fst.snd)).snd.fst,
 (tstI op
 ((bothI (recP I (ex k m v d)) (recP I (ex k2 m2 v2 d2))).fst.fst,
 (bothI (recP I (ex k m v d)) (recP I (ex k2 m2 v2 d2))).fst.snd)
 ((bothI (recP I (ex k m v d)) (recP I (ex k2 m2 v2 d2))).snd.fst.fst,
 (bothI (recP I (ex k m v d)) (recP I (ex k2 m2 v2 d2))).snd.fst.snd)).snd.snd)
 (e, f)).fst
 (hldZ n op (ex k m v d) (ex k2 m2 v2 d2)
 ((tstI op
 ((bothI (recP I (ex k m v d)) (recP I (ex k2 m2 v2 d2))).fst.fst,
 (bothI (recP I (ex k m v d)) (recP I (ex k2 m2 v2 d2))).fst.snd)
 ((bothI (recP I (ex k m v d)) (recP I (ex k2 m2 v2 d2))).snd.fst.fst,
 (bothI (recP I (ex k m v d)) (recP I (ex k2 m2 v2 d2))).snd.fst.snd)).fst.fst,
 (tstI op
 ((bothI (recP I (ex k m v d)) (recP I (ex k2 m2 v2 d2))).fst.fst,
 (bothI (recP I (ex k m v d)) (recP I (ex k2 m2 v2 d2))).fst.snd)
 ((bothI (recP I (ex k m v d)) (recP I (ex k2 m2 v2 d2))).snd.fst.fst,
 (bothI (recP I (ex k m v d)) (recP I (ex k2 m2 v2 d2))).snd.fst.snd)).fst.snd)
 ((tstI op
 ((bothI (recP I (ex k m v d)) (recP I (ex k2 m2 v2 d2))).fst.fst,
 (bothI (recP I (ex k m v d)) (recP I (ex k2 m2 v2 d2))).fst.snd)
 ((bothI (recP I (ex k m v d)) (recP I (ex k2 m2 v2 d2))).snd.fst.fst,
 (bothI (recP I (ex k m v d)) (recP I (ex k2 m2 v2 d2))).snd.fst.snd)).snd.fst,
 (tstI op
 ((bothI (recP I (ex k m v d)) (recP I (ex k2 m2 v2 d2))).fst.fst,
 (bothI (recP I (ex k m v d)) (recP I (ex k2 m2 v2 d2))).fst.snd)
 ((bothI (recP I (ex k m v d)) (recP I (ex k2 m2 v2 d2))).snd.fst.fst,
 (bothI (recP I (ex k m v d)) (recP I (ex k2 m2 v2 d2))).snd.fst.snd)).snd.snd)
 (e, f)).snd
 (↑j : Int))])
 (List.range I.len) =
 List.map
 (fun (j : Nat) =>
 [D.i
 (itvLo n (asmZ n op (ex k m v d) (ex k2 m2 v2 d2) (e, f)).fst.fst
 (asmZ n op (ex k m v d) (ex k2 m2 v2 d2) (e, f)).fst.snd (↑j : Int)),
 D.i
 (itvHi n (asmZ n op (ex k m v d) (ex k2 m2 v2 d2) (e, f)).fst.fst
 (asmZ n op (ex k m v d) (ex k2 m2 v2 d2) (e, f)).fst.snd (↑j : Int))])
 (List.range n.toNat) ∧
 n = n ∧
 (hldZ n op (ex k m v d) (ex k2 m2 v2 d2)
 ((tstI op
 ((bothI (recP I (ex k m v d)) (recP I (ex k2 m2 v2 d2))).fst.fst,
 (bothI (recP I (ex k m v d)) (recP I (ex k2 m2 v2 d2))).fst.snd)
 ((bothI (recP I (ex k m v d)) (recP I (ex k2 m2 v2 d2))).snd.fst.fst,
 (bothI (recP I (ex k m v d)) (recP I (ex k2 m2 v2 d2))).snd.fst.snd)).fst.fst,
 (tstI op
 ((bothI (recP I (ex k m v d)) (recP I (ex k2 m2 v2 d2))).fst.fst,
 (bothI (recP I (ex k m v d)) (recP I (ex k2 m2 v2 d2))).fst.snd)
 ((bothI (recP I (ex k m v d)) (recP I (ex k2 m2 v2 d2))).snd.fst.fst,
 (bothI (recP I (ex k m v d)) (recP I (ex k2 m2 v2 d2))).snd.fst.snd)).fst.snd)
 ((tstI op
 ((bothI (recP I (ex k m v d)) (recP I (ex k2 m2 v2 d2))).fst.fst,
 (bothI (recP I (ex k m v d)) (recP I (ex k2 m2 v2 d2))).fst.snd)
 ((bothI (recP I (ex k m v d)) (recP I (ex k2 m2 v2 d2))).snd.fst.fst,
 (bothI (recP I (ex k m v d)) (recP I (ex k2 m2 v2 d2))).snd.fst.snd)).snd.fst,
 (tstI op
 ((bothI (recP I (ex k m v d)) (recP I (ex k2 m2 v2 d2))).fst.fst,
 (bothI (recP I (ex k m v d)) (recP I (ex k2 m2 v2 d2))).fst.snd)
 ((bothI (recP I (ex k m v d)) (recP I (ex k2 m2 v2 d2))).snd.fst.fst,
 (bothI (recP I (ex k m v d)) (recP I (ex k2 m2 v2 d2))).snd.fst.snd)).snd.snd)
 (e, f)).fst =
 (asmZ n op (ex k m v d) (ex k2 m2 v2 d2) (e, f)).fst.fst ∧
 (∀ (o : Nat),
 o < nat_lit 49 →
 (hldZ n op (ex k m v d) (ex k2 m2 v2 d2)
 ((tstI op
 ((bothI (recP I (ex k m v d)) (recP I (ex k2 m2 v2 d2))).fst.fst,
 (bothI (recP I (ex k m v d)) (recP I (ex k2 m2 v2 d2))).fst.snd)
 ((bothI (recP I (ex k m v d)) (recP I (ex k2 m2 v2 d2))).snd.fst.fst,
 (bothI (recP I (ex k m v d)) (recP I (ex k2 m2 v2 d2))).snd.fst.snd)).fst.fst,
 (tstI op
 ((bothI (recP I (ex k m v d)) (recP I (ex k2 m2 v2 d2))).fst.fst,
 (bothI (recP I (ex k m v d)) (recP I (ex k2 m2 v2 d2))).fst.snd)
 ((bothI (recP I (ex k m v d)) (recP I (ex k2 m2 v2 d2))).snd.fst.fst,
 (bothI (recP I (ex k m v d)) (recP I (ex k2 m2 v2 d2))).snd.fst.snd)).fst.snd)
 ((tstI op
 ((bothI (recP I (ex k m v d)) (recP I (ex k2 m2 v2 d2))).fst.fst,
 (bothI (recP I (ex k m v d)) (recP I (ex k2 m2 v2 d2))).fst.snd)
 ((bothI (recP I (ex k m v d)) (recP I (ex k2 m2 v2 d2))).snd.fst.fst,
 (bothI (recP I (ex k m v d)) (recP I (ex k2 m2 v2 d2))).snd.fst.snd)).snd.fst,
 (tstI op
 ((bothI (recP I (ex k m v d)) (recP I (ex k2 m2 v2 d2))).fst.fst,
 (bothI (recP I (ex k m v d)) (recP I (ex k2 m2 v2 d2))).fst.snd)
 ((bothI (recP I (ex k m v d)) (recP I (ex k2 m2 v2 d2))).snd.fst.fst,
 (bothI (recP I (ex k m v d)) (recP I (ex k2 m2 v2 d2))).snd.fst.snd)).snd.snd)
 (e, f)).snd
 o =
 (asmZ n op (ex k m v d) (ex k2 m2 v2 d2) (e, f)).fst.snd o) ∧
 (bothI (recP I (ex k m v d)) (recP I (ex k2 m2 v2 d2))).snd.snd.fst =
 (asmZ n op (ex k m v d) (ex k2 m2 v2 d2) (e, f)).snd.fst ∧
 (bothI (recP I (ex k m v d)) (recP I (ex k2 m2 v2 d2))).snd.snd.snd =
 (asmZ n op (ex k m v d) (ex k2 m2 v2 d2) (e, f)).snd.snd))) (by kernel_rfl) ?_
    intro h hn
    have e1 : asmZ n op (ex k m v d) (ex k2 m2 v2 d2) (e, f) = if c = true then ((true, fun _ => 0), (false, false)) else asmB n op (ex k m v d) (ex k2 m2 v2 d2) (bothI (recP I (ex k m v d)) (recP I (ex k2 m2 v2 d2))) (e, f) := by unfold asmZ; rw [h.recs, h.recs, h.c]
    have hb := both_rg (rec_rg h.rg (ex k m v d)) (rec_rg h.rg (ex k2 m2 v2 d2))
    have tn := h.top
    have hlen := h.len
    rw [e1]
    generalize bothI (recP I (ex k m v d)) (recP I (ex k2 m2 v2 d2)) = B at *
    obtain ⟨⟨l1, l2⟩, ⟨r1, r2⟩, er⟩ := B
    rw [tn]
    refine ⟨fun hc => ?_, fun hc => ?_⟩
    · rw [if_pos hc]; exact ⟨rfl, rfl, rfl, rfl, fun _ _ => rfl, rfl, rfl⟩
    · rw [if_neg (show ¬ c = true by rw [hc]; simp)]
      have hT := tst_nm op (l1, l2) (r1, r2)
      have eB : asmB n op (ex k m v d) (ex k2 m2 v2 d2) ((l1, l2), (r1, r2), er) (e, f) = asmT n op (ex k m v d) (ex k2 m2 v2 d2) (tstI op (l1, l2) (r1, r2)) er (e, f) := rfl
      rw [eB]
      dsimp only
      generalize tstI op (l1, l2) (r1, r2) = T at *
      obtain ⟨⟨s1, s2⟩, ⟨t1, t2⟩⟩ := T
      refine ⟨h.rg, hb.1, hb.2, fun q => ?_, fun q => ?_⟩
      · have q : s2 < s1 ∨ t2 < t1 := by simpa using q
        have eT : asmT n op (ex k m v d) (ex k2 m2 v2 d2) ((s1, s2), (t1, t2)) er (e, f) = ((true, fun _ => 0), er) := if_pos q
        rw [eT]; exact ⟨rfl, rfl, rfl, rfl, fun _ _ => rfl, rfl, rfl⟩
      · have q : ¬ (s2 < s1 ∨ t2 < t1) := by simp at q; omega
        have eT : asmT n op (ex k m v d) (ex k2 m2 v2 d2) ((s1, s2), (t1, t2)) er (e, f) = (hldZ n op (ex k m v d) (ex k2 m2 v2 d2) (s1, s2) (t1, t2) (e, f), er) := if_neg q
        rw [eT, hlen]
        exact ⟨h, hn, nm_rz hT.1 (by dsimp only; omega), nm_rz hT.2 (by dsimp only; omega), rfl, rfl, rfl, rfl, fun _ _ => rfl, rfl, rfl⟩
  · trivial
end Go.Proofs.Ytbcbcambkjhhhaa.Sx.Z
