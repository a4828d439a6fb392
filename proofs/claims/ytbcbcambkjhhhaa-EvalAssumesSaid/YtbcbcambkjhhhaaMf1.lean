/-
  Where a comparison holds: the reference's, and what is told of it.
-/
import Derived.Test.YtbcbcambkjhhhaaProg
import Derived.Test.YtbcbcambkjhhhaaChecked
import Derived.Laws.Bits64
import Derived.ChangeArms
import Derived.OpenShut
import Derived.WideShapes
import Derived.ChangeShapes
import Derived.Carry
import Derived.DataReads
import Derived.KernelRfl
import Derived.Deep.LoopGhost
import Derived.Laws.Append
import Derived.Laws.AppendOwn
import Derived.Laws.MakeOwn
import Derived.Laws.StructEq
import Derived.Laws.Cells
import Derived.Laws.CopyRow
import Derived.Laws.Rows
import Derived.Below
import Derived.Orders
import Derived.ChangeKeysEq
import Derived.IntWalk
import Derived.Deep.CutRange
import Derived.WalkKit
import Derived.ProofKit
import Derived.Handy
import Derived.Lib.Hide
import Derived.Deep.WholeRow
import Derived.Deep.Cut
import Derived.Deep.RegionHeld3
import Derived.RegionTactic
import Derived.Test.YtbcbcambkjhhhaaMA
import Derived.Test.YtbcbcambkjhhhaaMB
import Derived.Test.YtbcbcambkjhhhaaMC
import Derived.Test.YtbcbcambkjhhhaaMD
import Derived.Test.YtbcbcambkjhhhaaME
import Derived.Test.YtbcbcambkjhhhaaMF
import Derived.Test.YtbcbcambkjhhhaaMG
import Derived.Test.YtbcbcambkjhhhaaMH
import Derived.Test.YtbcbcambkjhhhaaMI
import Derived.Test.YtbcbcambkjhhhaaMJ
import Derived.Test.YtbcbcambkjhhhaaMK
import Derived.Test.YtbcbcambkjhhhaaML
import Derived.Test.YtbcbcambkjhhhaaMM
import Derived.Test.YtbcbcambkjhhhaaMj1
import Derived.Test.YtbcbcambkjhhhaaMN
import Derived.Test.YtbcbcambkjhhhaaMP
import Derived.Test.YtbcbcambkjhhhaaMQ
import Derived.Test.YtbcbcambkjhhhaaMR
import Derived.Test.YtbcbcambkjhhhaaMV
import Derived.Test.YtbcbcambkjhhhaaMW
import Derived.Test.YtbcbcambkjhhhaaMX
import Derived.Test.YtbcbcambkjhhhaaMY
import Derived.Test.YtbcbcambkjhhhaaMZ
import Derived.Test.YtbcbcambkjhhhaaMb1
import Derived.Test.YtbcbcambkjhhhaaMc1
namespace Go.Proofs.Ytbcbcambkjhhhaa.Sx.Z
open Go.RowKit
def hP (op a b : Int) : Bool := if op = 1 then a == b else if op = 2 then a != b else if op = 3 then decide (a < b) else if op = 4 then decide (a ≤ b) else if op = 5 then decide (a > b) else (op == 6) && decide (a ≥ b)
def hldT (op : Int) (s t : Int × Int) : Bool × Int := if s.2 ≠ 0 then (false, s.2) else if t.2 ≠ 0 then (false, t.2) else (hP op s.1 t.1, 0)
noncomputable def rholdsS : FSpec := fun ds _ => match ds with
  | [.i op, .i k, .i m, .i v, .d d, .i k2, .i m2, .i v2, .d d2, .d g] => some { val := .tup [.sc (.bool (.sym (hldT op (evT (vD g) (ex k m v d)) (evT (vD g) (ex k2 m2 v2 d2))).1)), .sc (.int .i64 (.sym (hldT op (evT (vD g) (ex k m v d)) (evT (vD g) (ex k2 m2 v2 d2))).2))], vc := [Tm g.len (ex k m v d), Tm g.len (ex k2 m2 v2 d2), InV g.len (vD g)] }
  | _ => none
noncomputable def rholdsC : Con := con [.agg [.c (.int .i64), .c (.int .i64), .c (.int .i64), .c (.int .i64), .c (.rows 24), .c (.int .i64), .c (.int .i64), .c (.int .i64), .c (.rows 24)], .sc (.rows 3)] rholdsS
theorem rholds_ok : ConOK Try.prog 19 rholdsC := by
  refine fn_ob tt_ok mixed Try.func19 rfl (fun _ _ => by kernel_rfl) (A := fun ds => ⟨fun _ => Cons.of [(16, revC)], fun _ => none, fun _ => none⟩) (fun _ _ => (cons_cons rev_ok cons_nil)) (by kernel_rfl) ?_
  intro ds fr
  unfold rholdsS
  split
  · rename_i op k m v d k2 m2 v2 d2 g
    refine kmp (q := Tm (↑g.len : Int) (ex k m v d) →
 Tm (↑g.len : Int) (ex k2 m2 v2 d2) →
 InV (↑g.len : Int) (vD g) →
 Tm (↑g.len : Int) (ex k m v d) ∧
 InV (↑g.len : Int) (vD g) ∧
 (((evT (vD g) (ex k m v d)).snd != (0 : Int)) = true →
 false = (hldT op (evT (vD g) (ex k m v d)) (evT (vD g) (ex k2 m2 v2 d2))).fst ∧
 (evT (vD g) (ex k m v d)).snd = (hldT op (evT (vD g) (ex k m v d)) (evT (vD g) (ex k2 m2 v2 d2))).snd) ∧
 (((evT (vD g) (ex k m v d)).snd != (0 : Int)) = false →
 Tm (↑g.len : Int) (ex k2 m2 v2 d2) ∧
 InV (↑g.len : Int) (vD g) ∧
 (((evT (vD g) (ex k2 m2 v2 d2)).snd != (0 : Int)) = true →
 false = (hldT op (evT (vD g) (ex k m v d)) (evT (vD g) (ex k2 m2 v2 d2))).fst ∧
 (evT (vD g) (ex k2 m2 v2 d2)).snd = (hldT op (evT (vD g) (ex k m v d)) (evT (vD g) (ex k2 m2 v2 d2))).snd) ∧
 (((evT (vD g) (ex k2 m2 v2 d2)).snd != (0 : Int)) = false →
 ((op == (1 : Int)) = true →
 ((evT (vD g) (ex k m v d)).fst == (evT (vD g) (ex k2 m2 v2 d2)).fst) =
 (hldT op (evT (vD g) (ex k m v d)) (evT (vD g) (ex k2 m2 v2 d2))).fst ∧
 (0 : Int) = (hldT op (evT (vD g) (ex k m v d)) (evT (vD g) (ex k2 m2 v2 d2))).snd) ∧
 ((op == (1 : Int)) = false →
 ((op == (2 : Int)) = true →
 ((evT (vD g) (ex k m v d)).fst != (evT (vD g) (ex k2 m2 v2 d2)).fst) =
 (hldT op (evT (vD g) (ex k m v d)) (evT (vD g) (ex k2 m2 v2 d2))).fst ∧
 (0 : Int) = (hldT op (evT (vD g) (ex k m v d)) (evT (vD g) (ex k2 m2 v2 d2))).snd) ∧
 ((op == (2 : Int)) = false →
 ((op == (3 : Int)) = true →
 decide ((evT (vD g) (ex k m v d)).fst < (evT (vD g) (ex k2 m2 v2 d2)).fst) =
 (hldT op (evT (vD g) (ex k m v d)) (evT (vD g) (ex k2 m2 v2 d2))).fst ∧
 (0 : Int) = (hldT op (evT (vD g) (ex k m v d)) (evT (vD g) (ex k2 m2 v2 d2))).snd) ∧
 ((op == (3 : Int)) = false →
 ((op == (4 : Int)) = true →
 decide ((evT (vD g) (ex k m v d)).fst ≤ (evT (vD g) (ex k2 m2 v2 d2)).fst) =
 (hldT op (evT (vD g) (ex k m v d)) (evT (vD g) (ex k2 m2 v2 d2))).fst ∧
 (0 : Int) = (hldT op (evT (vD g) (ex k m v d)) (evT (vD g) (ex k2 m2 v2 d2))).snd) ∧
 ((op == (4 : Int)) = false →
 ((op == (5 : Int)) = true →
 decide ((evT (vD g) (ex k m v d)).fst > (evT (vD g) (ex k2 m2 v2 d2)).fst) =
 (hldT op (evT (vD g) (ex k m v d)) (evT (vD g) (ex k2 m2 v2 d2))).fst ∧
 (0 : Int) = (hldT op (evT (vD g) (ex k m v d)) (evT (vD g) (ex k2 m2 v2 d2))).snd) ∧
 ((op == (5 : Int)) = false →
 ((op == (6 : Int)) = true →
 decide ((evT (vD g) (ex k m v d)).fst ≥ (evT (vD g) (ex k2 m2 v2 d2)).fst) =
 (hldT op (evT (vD g) (ex k m v d)) (evT (vD g) (ex k2 m2 v2 d2))).fst ∧
 (0 : Int) = (hldT op (evT (vD g) (ex k m v d)) (evT (vD g) (ex k2 m2 v2 d2))).snd) ∧
 ((op == (6 : Int)) = false →
 false = (hldT op (evT (vD g) (ex k m v d)) (evT (vD g) (ex k2 m2 v2 d2))).fst ∧
 (0 : Int) = (hldT op (evT (vD g) (ex k m v d)) (evT (vD g) (ex k2 m2 v2 d2))).snd))))))))) (by kernel_rfl) ?_
    intro h1 h2 hg
    generalize evT (vD g) (ex k m v d) = s
    generalize evT (vD g) (ex k2 m2 v2 d2) = t
    refine ⟨h1, hg, fun q => ?_, fun q => ⟨h2, hg, fun q2 => ?_, fun q2 => ?_⟩⟩
    · have q : s.2 ≠ 0 := by simpa using q
      have e : hldT op s t = (false, s.2) := if_pos q
      rw [e]; exact ⟨rfl, rfl⟩
    · have q : ¬ s.2 ≠ 0 := by simpa using q
      have q2 : t.2 ≠ 0 := by simpa using q2
      have e : hldT op s t = (false, t.2) := (if_neg q).trans (if_pos q2)
      rw [e]; exact ⟨rfl, rfl⟩
    · have q : ¬ s.2 ≠ 0 := by simpa using q
      have q2 : ¬ t.2 ≠ 0 := by simpa using q2
      have e : hldT op s t = (hP op s.1 t.1, 0) := (if_neg q).trans (if_neg q2)
      rw [e]
      dsimp only
      refine ⟨fun o => ?_, fun o1 => ⟨fun o => ?_, fun o2 => ⟨fun o => ?_, fun o3 => ⟨fun o => ?_, fun o4 => ⟨fun o => ?_, fun o5 => ⟨fun o => ?_, fun o6 => ?_⟩⟩⟩⟩⟩⟩
      · have o : op = 1 := by simpa using o
        subst o; exact ⟨rfl, rfl⟩
      · have o : op = 2 := by simpa using o
        subst o; exact ⟨rfl, rfl⟩
      · have o : op = 3 := by simpa using o
        subst o; exact ⟨rfl, rfl⟩
      · have o : op = 4 := by simpa using o
        subst o; exact ⟨rfl, rfl⟩
      · have o : op = 5 := by simpa using o
        subst o; exact ⟨rfl, rfl⟩
      · have o : op = 6 := by simpa using o
        subst o; exact ⟨by unfold hP; simp, rfl⟩
      · have o1 : ¬ op = 1 := by simpa using o1
        have o2 : ¬ op = 2 := by simpa using o2
        have o3 : ¬ op = 3 := by simpa using o3
        have o4 : ¬ op = 4 := by simpa using o4
        have o5 : ¬ op = 5 := by simpa using o5
        refine ⟨?_, rfl⟩
        unfold hP
        rw [if_neg o1, if_neg o2, if_neg o3, if_neg o4, if_neg o5, o6]; rfl
  · trivial
theorem of_has {a b c : Int} (h : a ≤ c ∧ c ≤ b) (hc : -2147483648 ≤ c ∧ c ≤ 2147483647) : ofLo a b ≤ c ∧ c ≤ ofHi a b := by
  have := ofI_cases a b
  unfold ofI at this
  rcases this with ⟨h1, _⟩ | ⟨h1, e⟩
  · exfalso; omega
  · obtain ⟨e1, e2⟩ := Prod.mk.inj e
    rw [e1, e2]; omega
theorem tst_has {op : Int} (h16 : 1 ≤ op ∧ op ≤ 6) {L R : Int × Int} {a b : Int} (hL : L.1 ≤ a ∧ a ≤ L.2) (hR : R.1 ≤ b ∧ b ≤ R.2) (ha : -2147483648 ≤ a ∧ a ≤ 2147483647) (hb : -2147483648 ≤ b ∧ b ≤ 2147483647) (h : hP op a b = true) : ((tstI op L R).1.1 ≤ a ∧ a ≤ (tstI op L R).1.2) ∧ (tstI op L R).2.1 ≤ b ∧ b ≤ (tstI op L R).2.2 := by
  have nE : ¬ (L.2 < L.1 ∨ R.2 < R.1) := by omega
  have un : ∀ {A B : Int × Int} {a b : Int}, (A.1 ≤ a ∧ a ≤ A.2) → (B.1 ≤ b ∧ b ≤ B.2) → (-2147483648 ≤ a ∧ a ≤ 2147483647) → a ≠ b → (unlI A B).1 ≤ a ∧ a ≤ (unlI A B).2 := fun {A B a b} hA hB ha hab => by
    unfold unlI
    split
    · exact of_has (by omega) ha
    · split
      · exact of_has (by omega) ha
      · exact of_has (by omega) ha
  have ud : ∀ {A B : Int × Int} {a b n : Int}, (A.1 ≤ a ∧ a ≤ A.2) → (B.1 ≤ b ∧ b ≤ B.2) → (-2147483648 ≤ a ∧ a ≤ 2147483647) → (-2147483648 ≤ b ∧ b ≤ 2147483647) → a + n ≤ b → ((undI A B n).1.1 ≤ a ∧ a ≤ (undI A B n).1.2) ∧ (undI A B n).2.1 ≤ b ∧ b ≤ (undI A B n).2.2 := fun {A B a b n} hA hB ha hb hn => by
    unfold undI
    exact ⟨of_has (by omega) ha, of_has (by omega) hb⟩
  have ho : op = 1 ∨ op = 2 ∨ op = 3 ∨ op = 4 ∨ op = 5 ∨ op = 6 := by omega
  unfold tstI
  rw [if_neg nE]
  rcases ho with rfl | rfl | rfl | rfl | rfl | rfl
  · have h : a = b := by simpa [hP] using h
    subst h
    have : (meetI L R).1 ≤ a ∧ a ≤ (meetI L R).2 := of_has (by omega) ha
    exact ⟨this, this⟩
  · have h : a ≠ b := by simpa [hP] using h
    exact ⟨un hL hR ha h, un hR hL hb (Ne.symm h)⟩
  · have h : a < b := by simpa [hP] using h
    exact ud (n := 1) hL hR ha hb (by omega)
  · have h : a ≤ b := by simpa [hP] using h
    exact ud (n := 0) hL hR ha hb (by omega)
  · have h : a > b := by simpa [hP] using h
    have := ud (n := 1) hR hL hb ha (by omega)
    exact ⟨this.2, this.1⟩
  · have h : a ≥ b := by simpa [hP] using h
    have := ud (n := 0) hR hL hb ha (by omega)
    exact ⟨this.2, this.1⟩
theorem of_no {a b : Int} (h : b < a) : ofHi a b < ofLo a b := by
  have := ofI_cases a b
  unfold ofI at this
  rcases this with ⟨h1, e⟩ | ⟨h1, e⟩
  · obtain ⟨e1, e2⟩ := Prod.mk.inj e
    rw [e1, e2]; decide
  · exfalso; omega
theorem tst_no {op : Int} (h16 : 1 ≤ op ∧ op ≤ 6) {a b : Int} (h : hP op a b = false) : (tstI op (a, a) (b, b)).1.2 < (tstI op (a, a) (b, b)).1.1 ∨ (tstI op (a, a) (b, b)).2.2 < (tstI op (a, a) (b, b)).2.1 := by
  have ho : op = 1 ∨ op = 2 ∨ op = 3 ∨ op = 4 ∨ op = 5 ∨ op = 6 := by omega
  unfold tstI
  rw [if_neg (by dsimp only; omega)]
  rcases ho with rfl | rfl | rfl | rfl | rfl | rfl
  · have h : a ≠ b := by simpa [hP] using h
    exact .inl (of_no (a := max a b) (b := min a b) (by omega))
  · have h : a = b := by simpa [hP] using h
    subst h
    refine .inl ?_
    show (unlI (a, a) (a, a)).2 < (unlI (a, a) (a, a)).1
    unfold unlI
    rw [if_pos ⟨rfl, rfl⟩]
    exact of_no (a := a + 1) (b := a) (by omega)
  · have h : ¬ a < b := by simpa [hP] using h
    exact .inl (of_no (a := a) (b := min a (b - 1)) (by omega))
  · have h : ¬ a ≤ b := by simpa [hP] using h
    exact .inl (of_no (a := a) (b := min a (b - 0)) (by omega))
  · have h : ¬ a > b := by simpa [hP] using h
    exact .inr (of_no (a := b) (b := min b (a - 1)) (by omega))
  · have h : ¬ a ≥ b := by simpa [hP] using h
    exact .inr (of_no (a := b) (b := min b (a - 0)) (by omega))
theorem bd_sub {n op x y b : Int} {z : Zs} (g : Good n z) (hx : isEndP n x = true) (hy : isEndP n y = true) {v : Nat → Int} (p : Pt n (bdZ n op x y b z) v) : Pt n z v := by
  unfold bdZ at p
  split at p
  · exact ((bnd_pt g hx hy v).1 ((bnd_pt (good_bnd g _ _ _) hy hx v).1 p).1).1
  · split at p
    · exact ((bnd_pt g hx hy v).1 p).1
    · split at p
      · exact ((bnd_pt g hx hy v).1 p).1
      · split at p
        · exact ((bnd_pt g hy hx v).1 p).1
        · split at p
          · exact ((bnd_pt g hy hx v).1 p).1
          · exact p
theorem good_bd {n op x y b : Int} {z : Zs} (g : Good n z) : Good n (bdZ n op x y b z) := by
  unfold bdZ
  (repeat' split) <;> first | exact good_bnd (good_bnd g _ _ _) _ _ _ | exact good_bnd g _ _ _ | exact g
theorem bd_in {n op x y b s t : Int} {z : Zs} (g : Good n z) (hx : isEndP n x = true) (hy : isEndP n y = true) {v : Nat → Int} (p : Pt n z v) (h : hP op s t = true) (e : v (x + 1).toNat - v (y + 1).toNat - b = s - t) : Pt n (bdZ n op x y b z) v := by
  unfold hP at h
  unfold bdZ
  split
  · rename_i o; rw [if_pos o] at h
    have h : s = t := by simpa using h
    exact (bnd_pt (good_bnd g _ _ _) hy hx v).2 ⟨(bnd_pt g hx hy v).2 ⟨p, by omega⟩, by omega⟩
  · rename_i o1; rw [if_neg o1] at h
    split
    · rename_i o; rw [if_neg (by omega), if_pos o] at h
      have h : s < t := by simpa using h
      exact (bnd_pt g hx hy v).2 ⟨p, by omega⟩
    · rename_i o3
      split
      · rename_i o; rw [if_neg (by omega), if_neg o3, if_pos o] at h
        have h : s ≤ t := by simpa using h
        exact (bnd_pt g hx hy v).2 ⟨p, by omega⟩
      · rename_i o4
        split
        · rename_i o; rw [if_neg (by omega), if_neg o3, if_neg o4, if_pos o] at h
          have h : s > t := by simpa using h
          exact (bnd_pt g hy hx v).2 ⟨p, by omega⟩
        · rename_i o5
          split
          · rename_i o; rw [if_neg (by omega), if_neg o3, if_neg o4, if_neg o5] at h
            have h : s ≥ t := by simp at h; omega
            exact (bnd_pt g hy hx v).2 ⟨p, by omega⟩
          · exact p
theorem good_hld {n : Int} {z : Zs} (g : Good n z) {L R : Xp} {op : Int} {s t : Int × Int} : Good n (hldZ n op L R s t z) := by
  unfold hldZ
  generalize linP L = l
  generalize linP R = r
  rcases l with _ | ⟨x, m⟩ <;> rcases r with _ | ⟨y, b⟩
  · exact g
  · exact good_met g _ _ _
  · exact good_met g _ _ _
  · dsimp only
    split
    · exact good_bd (good_met (good_met g _ _ _) _ _ _)
    · exact good_met (good_met g _ _ _) _ _ _
theorem good_asm {n : Int} {z : Zs} (g : Good n z) {L R : Xp} {op : Int} : Good n (asmZ n op L R z).1 := by
  unfold asmZ asmB asmT
  split
  · exact good_none g.n0 true
  · split
    · exact good_none g.n0 true
    · exact good_hld g
section
variable {n : Int} {z : Zs} (g : Good n z) (h1 : 1 ≤ n) {L R : Xp} (hL : Tm n L) (hR : Tm n R)
include g h1 hL hR
theorem hld_sub {op : Int} {s t : Int × Int} {v : Nat → Int} (p : Pt n (hldZ n op L R s t z) v) : Pt n z v := by
  have h0 := g.n0
  have lL := (lin_same h1 hL).2
  have lR := (lin_same h1 hR).2
  unfold hldZ at p
  generalize linP L = l at *
  generalize linP R = r at *
  rcases l with _ | ⟨x, m⟩ <;> rcases r with _ | ⟨y, b⟩
  · exact p
  · exact met_sub g (isEnd_of h0 (by have := lR y b rfl; omega)) p
  · exact met_sub g (isEnd_of h0 (by have := lL x m rfl; omega)) p
  · have ex := isEnd_of h0 (x := x) (by have := lL x m rfl; omega)
    have ey := isEnd_of h0 (x := y) (by have := lR y b rfl; omega)
    have g1 := good_met g x (s.1 - m) (s.2 - m)
    have g2 := good_met g1 y (t.1 - b) (t.2 - b)
    dsimp only at p
    split at p
    · exact met_sub g ex (met_sub g1 ey (bd_sub g2 ex ey p))
    · exact met_sub g ex (met_sub g1 ey p)
theorem asm_sub {op : Int} {v : Nat → Int} (p : Pt n (asmZ n op L R z).1 v) : Pt n z v := by
  unfold asmZ asmB asmT at p
  split at p
  · exact absurd p.1 (by simp)
  · split at p
    · exact absurd p.1 (by simp)
    · exact hld_sub g h1 hL hR p
theorem hld_in {h : Nat → Int} (hg : InV n (gI h)) (p : Pt n z (vz h)) {op : Int} {s t : Int × Int} (e0 : (evT (gI h) L).2 = 0) (f0 : (evT (gI h) R).2 = 0) (hs : s.1 ≤ (evT (gI h) L).1 ∧ (evT (gI h) L).1 ≤ s.2) (ht : t.1 ≤ (evT (gI h) R).1 ∧ (evT (gI h) R).1 ≤ t.2) (hh : hP op (evT (gI h) L).1 (evT (gI h) R).1 = true) : Pt n (hldZ n op L R s t z) (vz h) := by
  have h0 := g.n0
  have lL := (lin_same h1 hL).2
  have lR := (lin_same h1 hR).2
  have vL := @lin_ev n h1 (gI h) hg L hL
  have vR := @lin_ev n h1 (gI h) hg R hR
  unfold hldZ
  generalize linP L = l at *
  generalize linP R = r at *
  generalize evT (gI h) L = eL at *
  generalize evT (gI h) R = eR at *
  have mt : ∀ {z : Zs} {x m a : Int} {s : Int × Int}, Good n z → Pt n z (vz h) → (-1 ≤ x ∧ x < n) → a = (if x = -1 then 0 else gI h x) + m → (s.1 ≤ a ∧ a ≤ s.2) → Pt n (metZ n x (s.1 - m) (s.2 - m) z) (vz h) := fun {z x m a s} gz pz hx ea hs => by
    refine met_in gz (isEnd_of h0 hx) pz fun x0 => ?_
    rw [vz_end h hx.1, if_neg (by omega)]
    rw [if_neg (by omega)] at ea
    exact of_has (by omega) (hg x x0 hx.2)
  rcases l with _ | ⟨x, m⟩ <;> rcases r with _ | ⟨y, b⟩
  · exact p
  · have := lR y b rfl
    exact mt g p (by omega) (vR rfl f0) ht
  · have := lL x m rfl
    exact mt g p (by omega) (vL rfl e0) hs
  · have rx := lL x m rfl
    have ry := lR y b rfl
    have ex := isEnd_of h0 (x := x) (by omega)
    have ey := isEnd_of h0 (x := y) (by omega)
    have g1 := good_met g x (s.1 - m) (s.2 - m)
    have g2 := good_met g1 y (t.1 - b) (t.2 - b)
    have a1 := vL rfl e0
    have a2 := vR rfl f0
    have p1 := mt g p (by omega) a1 hs
    have p2 := mt g1 p1 (by omega) a2 ht
    dsimp only
    split
    · refine bd_in g2 ex ey p2 hh ?_
      rw [vz_end h (by omega), vz_end h (by omega)]
      omega
    · exact p2
theorem asm_in {h : Nat → Int} (hg : InV n (gI h)) (p : Pt n z (vz h)) {op : Int} (h16 : 1 ≤ op ∧ op ≤ 6) (hh : hldT op (evT (gI h) L) (evT (gI h) R) = (true, 0)) : Pt n (asmZ n op L R z).1 (vz h) := by
  have sL := eva_snd g h1 hg hL p
  have sR := eva_snd g h1 hg hR p
  have iL := ev_in hg hL
  have iR := ev_in hg hR
  have e0 : (evT (gI h) L).2 = 0 := by
    by_cases q : (evT (gI h) L).2 = 0
    · exact q
    · unfold hldT at hh; rw [if_pos q] at hh; cases hh
  have f0 : (evT (gI h) R).2 = 0 := by
    by_cases q : (evT (gI h) R).2 = 0
    · exact q
    · unfold hldT at hh; rw [if_neg (by omega), if_pos q] at hh; cases hh
  have hp : hP op (evT (gI h) L).1 (evT (gI h) R).1 = true := by
    unfold hldT at hh; rw [if_neg (by omega), if_neg (by omega)] at hh; exact congrArg Prod.fst hh
  have bb := (both_snd sL sR).1 e0
  have tt := tst_has h16 (sL.1 e0) (sR.1 f0) iL.2.2 iR.2.2 hp
  unfold asmZ asmB asmT
  rw [if_neg (by rw [p.1]; simp), bb]
  dsimp only
  rw [if_neg (by omega)]
  exact hld_in g h1 hL hR hg p e0 f0 tt.1 tt.2 hp
theorem asm_snd {h : Nat → Int} (hg : InV n (gI h)) (p : Pt n z (vz h)) {op : Int} : ((hldT op (evT (gI h) L) (evT (gI h) R)).2 = 2 → (asmZ n op L R z).2.1 = true) ∧ ((hldT op (evT (gI h) L) (evT (gI h) R)).2 = 3 → (asmZ n op L R z).2.2 = true) := by
  have sL := eva_snd g h1 hg hL p
  have sR := eva_snd g h1 hg hR p
  have e : (asmZ n op L R z).2 = (bothI (recP (itD n.toNat n z) L) (recP (itD n.toNat n z) R)).2.2 := by
    unfold asmZ asmB asmT
    rw [if_neg (by rw [p.1]; simp)]
    split <;> rfl
  obtain ⟨b0, b2, b3⟩ := both_snd sL sR
  rw [e]
  unfold hldT
  have tgr : ∀ {x y : Bool × Bool}, y.1 = true → (tg x y).1 = true := fun h => by unfold tg; rw [h]; simp
  have tgr2 : ∀ {x y : Bool × Bool}, y.2 = true → (tg x y).2 = true := fun h => by unfold tg; rw [h]; simp
  split
  · exact ⟨fun q => b2 q, fun q => b3 q⟩
  · rename_i q0
    have q0 : (evT (gI h) L).2 = 0 := by omega
    rw [b0 q0]
    split
    · exact ⟨fun q => tgr (sR.2.1 q), fun q => tgr2 (sR.2.2 q)⟩
    · exact ⟨fun q => (by cases q), fun q => (by cases q)⟩
theorem asm_alone {h : Nat → Int} (hg : InV n (gI h)) (s : Sg n z (vz h)) {op : Int} (h16 : 1 ≤ op ∧ op ≤ 6) : (asmZ n op L R z).1.1 = (decide ((hldT op (evT (gI h) L) (evT (gI h) R)).2 ≠ 0) || !(hldT op (evT (gI h) L) (evT (gI h) R)).1) ∧ (asmZ n op L R z).2 = (decide ((hldT op (evT (gI h) L) (evT (gI h) R)).2 = 2), decide ((hldT op (evT (gI h) L) (evT (gI h) R)).2 = 3)) := by
  have aL := eva_alone g h1 hg hL s
  have aR := eva_alone g h1 hg hR s
  have ain := @asm_in n z g h1 L R hL hR h hg s.2.1 op h16
  have iL := ev_in hg hL
  have iR := ev_in hg hR
  generalize hA : asmZ n op L R z = A at *
  unfold asmZ asmB asmT at hA
  rw [if_neg (by rw [s.2.1.1]; simp), aL, aR] at hA
  generalize evT (gI h) L = l at *
  generalize evT (gI h) R = r at *
  have tn : ∀ x : Bool × Bool, tg (false, false) x = x := fun x => by unfold tg; simp
  have te : tstI op (1, 0) (1, 0) = ((1, 0), (1, 0)) := by unfold tstI; rw [if_pos (.inl (by decide))]
  by_cases ql : l.2 = 0
  · have el : alone l = ((l.1, l.1), (false, false)) := by unfold alone; rw [if_pos ql, ql]; rfl
    rw [el] at hA
    by_cases qr : r.2 = 0
    · have er : alone r = ((r.1, r.1), (false, false)) := by unfold alone; rw [if_pos qr, qr]; rfl
      have eb : bothI ((l.1, l.1), (false, false)) ((r.1, r.1), (false, false)) = ((l.1, l.1), (r.1, r.1), (false, false)) := by unfold bothI; rw [if_neg (by dsimp only; omega)]; rfl
      have eh : hldT op l r = (hP op l.1 r.1, 0) := (if_neg (by omega)).trans (if_neg (by omega))
      rw [er, eb] at hA
      rw [eh] at ain ⊢
      dsimp only at hA ⊢
      cases hp : hP op l.1 r.1 with
      | true =>
        rw [hp] at ain
        have pa := ain rfl
        have tt := tst_has h16 (L := (l.1, l.1)) (R := (r.1, r.1)) (a := l.1) (b := r.1) ⟨Int.le_refl _, Int.le_refl _⟩ ⟨Int.le_refl _, Int.le_refl _⟩ iL.2.2 iR.2.2 hp
        rw [if_neg (by omega)] at hA
        exact ⟨pa.1, by rw [← hA]; rfl⟩
      | false =>
        rw [if_pos (tst_no h16 hp)] at hA
        rw [← hA]; exact ⟨rfl, rfl⟩
    · have er : alone r = ((1, 0), (decide (r.2 = 2), decide (r.2 = 3))) := by unfold alone; rw [if_neg qr]
      have eb : bothI ((l.1, l.1), (false, false)) ((1, 0), (decide (r.2 = 2), decide (r.2 = 3))) = ((l.1, l.1), (1, 0), (decide (r.2 = 2), decide (r.2 = 3))) := by unfold bothI; rw [if_neg (by dsimp only; omega), tn]
      have eh : hldT op l r = (false, r.2) := (if_neg (by omega)).trans (if_pos qr)
      have et : tstI op (l.1, l.1) (1, 0) = ((1, 0), (1, 0)) := by unfold tstI; rw [if_pos (.inr (by decide))]
      rw [er, eb] at hA
      dsimp only at hA
      rw [et, if_pos (.inl (by decide))] at hA
      rw [← hA, eh]; exact ⟨by simp, rfl⟩
  · have el : alone l = ((1, 0), (decide (l.2 = 2), decide (l.2 = 3))) := by unfold alone; rw [if_neg ql]
    have eb : bothI ((1, 0), (decide (l.2 = 2), decide (l.2 = 3))) (alone r) = ((1, 0), (1, 0), (decide (l.2 = 2), decide (l.2 = 3))) := by unfold bothI; rw [if_pos (show (0 : Int) < 1 by decide)]
    have eh : hldT op l r = (false, l.2) := if_pos ql
    rw [el, eb] at hA
    dsimp only at hA
    rw [te, if_pos (.inl (by decide))] at hA
    rw [← hA, eh]; exact ⟨by simp, rfl⟩
end
end Go.Proofs.Ytbcbcambkjhhhaa.Sx.Z
