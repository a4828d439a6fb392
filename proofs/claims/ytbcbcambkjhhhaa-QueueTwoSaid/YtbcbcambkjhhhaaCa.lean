/-
  Itvs joined, widened: the program's, and the reference's.
-/
import Derived.Test.YtbcbcambkjhhhaaZa
namespace Go.Proofs.Ytbcbcambkjhhhaa.Sx.Z
open Go.RowKit
def ofI (a b : Int) : Int × Int := (ofLo a b, ofHi a b)
def jnI (a b : Int × Int) : Int × Int := if a.2 < a.1 then ofI b.1 b.2 else if b.2 < b.1 then ofI a.1 a.2 else ofI (min a.1 b.1) (max a.2 b.2)
def wdI (a b : Int × Int) : Int × Int := if a.2 < a.1 ∨ b.2 < b.1 then jnI a b else (if b.1 < a.1 then -2147483648 else (jnI a b).1, if a.2 < b.2 then 2147483647 else (jnI a b).2)
def nrm (a : Int × Int) : Int × Int := if a.1 > a.2 then (1, 0) else a
def rjnI (a b : Int × Int) : Int × Int := if a.1 > a.2 then nrm b else if b.1 > b.2 then a else (min a.1 b.1, max a.2 b.2)
def rwdI (a b : Int × Int) : Int × Int := if a.1 > a.2 then nrm b else if b.1 > b.2 then a else (if b.1 < a.1 then -2147483648 else a.1, if a.2 < b.2 then 2147483647 else a.2)
def bendI (a : Int) : Int := IntKind.i64.wrap (IntKind.i32.wrap a)
theorem bendI_in (a : Int) : -2147483648 ≤ bendI a ∧ bendI a ≤ 2147483647 := by
  unfold bendI
  have : -2147483648 ≤ IntKind.i32.wrap a ∧ IntKind.i32.wrap a ≤ 2147483647 := by
    rw [IntKind.wrap_i32]; omega
  rw [wr _ (by omega)]
  exact this
/-- As every call tells it. -/
def Nm (p : Int × Int) : Prop := p = (1, 0) ∨ (-2147483648 ≤ p.1 ∧ p.1 ≤ p.2 ∧ p.2 ≤ 2147483647)
theorem ofI_cases (a b : Int) : (min b 2147483647 < max a (-2147483648) ∧ ofI a b = (1, 0)) ∨ (max a (-2147483648) ≤ min b 2147483647 ∧ ofI a b = (max a (-2147483648), min b 2147483647)) := by
  unfold ofI ofLo ofHi
  by_cases h : min b 2147483647 < max a (-2147483648)
  · left; simp [h]
  · right; simp [h]; omega
theorem nm_of (a b : Int) : Nm (ofI a b) := by
  rcases ofI_cases a b with ⟨_, e⟩ | ⟨h, e⟩
  · exact .inl e
  · right; rw [e]; dsimp only; omega
theorem nm_id {p : Int × Int} (h : Nm p) : ofI p.1 p.2 = p := by
  rcases h with rfl | h
  · rfl
  · obtain ⟨a, b⟩ := p
    dsimp only at h
    rcases ofI_cases a b with ⟨h1, e⟩ | ⟨h1, e⟩
    · exfalso; omega
    · rw [e]; ext <;> dsimp only <;> omega
theorem nm_jn {a b : Int × Int} : Nm (jnI a b) := by
  unfold jnI
  (repeat' split) <;> exact nm_of _ _
theorem jn_eq {a b : Int × Int} (ha : Nm a) (hb : Nm b) : rjnI a b = jnI a b := by
  unfold rjnI jnI nrm
  by_cases h1 : a.2 < a.1
  · rw [if_pos h1, if_pos h1]
    by_cases h2 : b.1 > b.2
    · rw [if_pos h2]
      rcases hb with rfl | hb
      · rfl
      · omega
    · rw [if_neg h2, nm_id hb]
  · rw [if_neg h1, if_neg h1]
    by_cases h2 : b.2 < b.1
    · rw [if_pos h2, if_pos h2, nm_id ha]
    · rw [if_neg h2, if_neg h2]
      have ha' : -2147483648 ≤ a.1 ∧ a.1 ≤ a.2 ∧ a.2 ≤ 2147483647 := by rcases ha with rfl | h; exact absurd (by decide) h1; exact h
      have hb' : -2147483648 ≤ b.1 ∧ b.1 ≤ b.2 ∧ b.2 ≤ 2147483647 := by rcases hb with rfl | h; exact absurd (by decide) h2; exact h
      exact (nm_id (p := (min a.1 b.1, max a.2 b.2)) (.inr (by dsimp only; omega))).symm
theorem wd_nm {a b : Int × Int} (ha : Nm a) (hb : Nm b) : rwdI a b = wdI a b ∧ Nm (wdI a b) := by
  have j := jn_eq ha hb
  have nj := @nm_jn a b
  obtain ⟨a1, a2⟩ := a
  obtain ⟨b1, b2⟩ := b
  unfold rwdI wdI
  unfold rjnI at j
  dsimp only at j ⊢
  by_cases h1 : a2 < a1
  · rw [if_pos h1] at j
    rw [if_pos h1, if_pos (.inl h1)]
    exact ⟨j, nj⟩
  · rw [if_neg h1] at j
    rw [if_neg h1]
    by_cases h2 : b2 < b1
    · rw [if_pos h2] at j
      rw [if_pos h2, if_pos (.inr h2)]
      exact ⟨j, nj⟩
    · rw [if_neg h2] at j
      rw [if_neg h2, if_neg (show ¬ (a2 < a1 ∨ b2 < b1) by omega), ← j]
      have ha' : -2147483648 ≤ a1 ∧ a1 ≤ a2 ∧ a2 ≤ 2147483647 := by
        rcases ha with h | h
        · obtain ⟨rfl, rfl⟩ := Prod.mk.inj h; exact absurd (by decide) h1
        · exact h
      have hb' : -2147483648 ≤ b1 ∧ b1 ≤ b2 ∧ b2 ≤ 2147483647 := by
        rcases hb with h | h
        · obtain ⟨rfl, rfl⟩ := Prod.mk.inj h; exact absurd (by decide) h2
        · exact h
      have e1 : (if b1 < a1 then (-2147483648 : Int) else a1) = if b1 < a1 then -2147483648 else min a1 b1 := by split <;> omega
      have e2 : (if a2 < b2 then (2147483647 : Int) else a2) = if a2 < b2 then 2147483647 else max a2 b2 := by split <;> omega
      refine ⟨by rw [e1, e2], .inr ?_⟩
      show -2147483648 ≤ (if b1 < a1 then (-2147483648 : Int) else min a1 b1) ∧ (if b1 < a1 then (-2147483648 : Int) else min a1 b1) ≤ (if a2 < b2 then (2147483647 : Int) else max a2 b2) ∧ (if a2 < b2 then (2147483647 : Int) else max a2 b2) ≤ 2147483647
      rw [← e1, ← e2]
      (repeat' split) <;> omega
theorem nrm_nm {a b : Int} (ha : -2147483648 ≤ a ∧ a ≤ 2147483647) (hb : -2147483648 ≤ b ∧ b ≤ 2147483647) : Nm (nrm (a, b)) := by
  unfold nrm
  split
  · exact .inl rfl
  · right; dsimp only at *; omega
theorem jnI_none {a : Int × Int} (h : Nm a) : jnI (1, 0) a = a := by unfold jnI; rw [if_pos (by decide)]; exact nm_id h
def norm8S : FSpec := fun ds _ => match ds with
  | [.i a, .i b] => some { val := .one (.agg [.c (.int .i64 (.sym ((nrm (a, b)).1))), .c (.int .i64 (.sym ((nrm (a, b)).2)))]), vc := [] }
  | _ => none
def norm8C : Con := con [itvA] norm8S
theorem norm8_ok : ConOK Try.prog 65 norm8C := by
  refine fn_ob tt_ok mixed Try.func65 rfl (fun _ _ => by kernel_rfl) (A := fun ds => ⟨fun _ => Cons.of [], fun _ => none, fun _ => none⟩) (fun _ _ => cons_nil) (by kernel_rfl) ?_
  intro ds fr
  unfold norm8S
  split
  · rename_i a b
    refine kmp (q := (decide (a > b) = true → (1 : Int) = (nrm (a, b)).fst ∧ (0 : Int) = (nrm (a, b)).snd) ∧ (decide (a > b) = false → a = (nrm (a, b)).fst ∧ b = (nrm (a, b)).snd)) (by kernel_rfl) ?_
    (repeat' first | apply And.intro | intro _) <;> grind [nrm, jnI, wdI, rjnI, rwdI, ofI]
  · trivial
def bend8S : FSpec := fun ds _ => match ds with
  | [.i a, .i b] => some { val := .one (.agg [.c (.int .i64 (.sym (bendI a))), .c (.int .i64 (.sym (bendI b)))]), vc := [] }
  | _ => none
def bend8C : Con := con [itvA] bend8S
theorem bend8_ok : ConOK Try.prog 66 bend8C := by
  refine fn_ob tt_ok mixed Try.func66 rfl (fun _ _ => by kernel_rfl) (A := fun ds => ⟨fun _ => Cons.of [], fun _ => none, fun _ => none⟩) (fun _ _ => cons_nil) (by kernel_rfl) ?_
  intro ds fr
  unfold bend8S
  split
  · rename_i a b
    refine kmp (q := IntKind.i64.wrap (IntKind.i32.wrap a) = bendI a ∧ IntKind.i64.wrap (IntKind.i32.wrap b) = bendI b) (by kernel_rfl) ?_
    exact ⟨rfl, rfl⟩
  · trivial
def rhas8S : FSpec := fun ds _ => match ds with
  | [.i a, .i b, .i n] => some { val := .one (.sc (.bool (.sym (decide (a ≤ n) && decide (n ≤ b))))), vc := [] }
  | _ => none
def rhas8C : Con := con [itvA, iA] rhas8S
theorem rhas8_ok : ConOK Try.prog 76 rhas8C := by
  refine fn_ob tt_ok mixed Try.func76 rfl (fun _ _ => by kernel_rfl) (A := fun ds => ⟨fun _ => Cons.of [], fun _ => none, fun _ => none⟩) (fun _ _ => cons_nil) (by kernel_rfl) ?_
  intro ds fr
  unfold rhas8S
  split
  · rename_i a b n
    refine kmp (q := (decide (a ≤ n) && decide (n ≤ b)) = (decide (a ≤ n) && decide (n ≤ b))) (by kernel_rfl) ?_
    rfl
  · trivial
def iwithinS : FSpec := fun ds _ => match ds with
  | [.i a, .i b, .i c, .i d] => some { val := .one (.sc (.bool (.sym (decide (b < a) || (decide (c ≤ a) && decide (b ≤ d)))))), vc := [] }
  | _ => none
def iwithinC : Con := con [itvA, itvA] iwithinS
theorem iwithin_ok : ConOK Try.prog 79 iwithinC := by
  refine fn_ob tt_ok mixed Try.func79 rfl (fun _ _ => by kernel_rfl) (A := fun ds => ⟨fun _ => Cons.of [(46, emptyC)], fun _ => none, fun _ => none⟩) (fun _ _ => (cons_cons empty_ok cons_nil)) (by kernel_rfl) ?_
  intro ds fr
  unfold iwithinS
  split
  · rename_i a b c d
    refine kmp (q := (decide (b < a) || decide (c ≤ a) && decide (b ≤ d)) = (decide (b < a) || decide (c ≤ a) && decide (b ≤ d))) (by kernel_rfl) ?_
    rfl
  · trivial
def ijoinS : FSpec := fun ds _ => match ds with
  | [.i a, .i b, .i c, .i d] => some { val := .one (.agg [.c (.int .i64 (.sym ((jnI (a, b) (c, d)).1))), .c (.int .i64 (.sym ((jnI (a, b) (c, d)).2)))]), vc := [] }
  | _ => none
def ijoinC : Con := con [itvA, itvA] ijoinS
theorem ijoin_ok : ConOK Try.prog 70 ijoinC := by
  refine fn_ob tt_ok mixed Try.func70 rfl (fun _ _ => by kernel_rfl) (A := fun ds => ⟨fun _ => Cons.of [(46, emptyC), (68, iofC)], fun _ => none, fun _ => none⟩) (fun _ _ => (cons_cons empty_ok (cons_cons iof_ok cons_nil))) (by kernel_rfl) ?_
  intro ds fr
  unfold ijoinS
  split
  · rename_i a b c d
    refine kmp (q := (decide (b < a) = true → ofLo c d = (jnI (a, b) (c, d)).fst ∧ ofHi c d = (jnI (a, b) (c, d)).snd) ∧
 (decide (b < a) = false →
 (decide (d < c) = true → ofLo a b = (jnI (a, b) (c, d)).fst ∧ ofHi a b = (jnI (a, b) (c, d)).snd) ∧
 (decide (d < c) = false →
 ofLo (if c < a then c else a) (if d > b then d else b) = (jnI (a, b) (c, d)).fst ∧
 ofHi (if c < a then c else a) (if d > b then d else b) = (jnI (a, b) (c, d)).snd))) (by kernel_rfl) ?_
    (repeat' first | apply And.intro | intro _) <;> grind [nrm, jnI, wdI, rjnI, rwdI, ofI]
  · trivial
def iwidenS : FSpec := fun ds _ => match ds with
  | [.i a, .i b, .i c, .i d] => some { val := .one (.agg [.c (.int .i64 (.sym ((wdI (a, b) (c, d)).1))), .c (.int .i64 (.sym ((wdI (a, b) (c, d)).2)))]), vc := [] }
  | _ => none
def iwidenC : Con := con [itvA, itvA] iwidenS
theorem iwiden_ok : ConOK Try.prog 71 iwidenC := by
  refine fn_ob tt_ok mixed Try.func71 rfl (fun _ _ => by kernel_rfl) (A := fun ds => ⟨fun _ => Cons.of [(46, emptyC), (70, ijoinC)], fun _ => none, fun _ => none⟩) (fun _ _ => (cons_cons empty_ok (cons_cons ijoin_ok cons_nil))) (by kernel_rfl) ?_
  intro ds fr
  unfold iwidenS
  split
  · rename_i a b c d
    refine kmp (q := ((decide (b < a) || decide (d < c)) = true → (jnI (a, b) (c, d)).fst = (wdI (a, b) (c, d)).fst ∧ (jnI (a, b) (c, d)).snd = (wdI (a, b) (c, d)).snd) ∧
 ((decide (b < a) || decide (d < c)) = false →
 (decide (c < a) = true →
 (decide (d > b) = true → (-2147483648 : Int) = (wdI (a, b) (c, d)).fst ∧ (2147483647 : Int) = (wdI (a, b) (c, d)).snd) ∧
 (decide (d > b) = false → (-2147483648 : Int) = (wdI (a, b) (c, d)).fst ∧ (jnI (a, b) (c, d)).snd = (wdI (a, b) (c, d)).snd)) ∧
 (decide (c < a) = false →
 (decide (d > b) = true → (jnI (a, b) (c, d)).fst = (wdI (a, b) (c, d)).fst ∧ (2147483647 : Int) = (wdI (a, b) (c, d)).snd) ∧
 (decide (d > b) = false → (jnI (a, b) (c, d)).fst = (wdI (a, b) (c, d)).fst ∧ (jnI (a, b) (c, d)).snd = (wdI (a, b) (c, d)).snd)))) (by kernel_rfl) ?_
    (repeat' first | apply And.intro | intro _) <;> grind [nrm, jnI, wdI, rjnI, rwdI, ofI]
  · trivial
def rjoin8S : FSpec := fun ds _ => match ds with
  | [.i a, .i b, .i c, .i d] => some { val := .one (.agg [.c (.int .i64 (.sym ((rjnI (a, b) (c, d)).1))), .c (.int .i64 (.sym ((rjnI (a, b) (c, d)).2)))]), vc := [] }
  | _ => none
def rjoin8C : Con := con [itvA, itvA] rjoin8S
theorem rjoin8_ok : ConOK Try.prog 73 rjoin8C := by
  refine fn_ob tt_ok mixed Try.func73 rfl (fun _ _ => by kernel_rfl) (A := fun ds => ⟨fun _ => Cons.of [(65, norm8C)], fun _ => none, fun _ => none⟩) (fun _ _ => (cons_cons norm8_ok cons_nil)) (by kernel_rfl) ?_
  intro ds fr
  unfold rjoin8S
  split
  · rename_i a b c d
    refine kmp (q := (decide (a > b) = true → (nrm (c, d)).fst = (rjnI (a, b) (c, d)).fst ∧ (nrm (c, d)).snd = (rjnI (a, b) (c, d)).snd) ∧
 (decide (a > b) = false →
 (decide (c > d) = true → a = (rjnI (a, b) (c, d)).fst ∧ b = (rjnI (a, b) (c, d)).snd) ∧
 (decide (c > d) = false → (if c < a then c else a) = (rjnI (a, b) (c, d)).fst ∧ (if d > b then d else b) = (rjnI (a, b) (c, d)).snd))) (by kernel_rfl) ?_
    (repeat' first | apply And.intro | intro _) <;> grind [nrm, jnI, wdI, rjnI, rwdI, ofI]
  · trivial
def rwiden8S : FSpec := fun ds _ => match ds with
  | [.i a, .i b, .i c, .i d] => some { val := .one (.agg [.c (.int .i64 (.sym ((rwdI (a, b) (c, d)).1))), .c (.int .i64 (.sym ((rwdI (a, b) (c, d)).2)))]), vc := [] }
  | _ => none
def rwiden8C : Con := con [itvA, itvA] rwiden8S
theorem rwiden8_ok : ConOK Try.prog 74 rwiden8C := by
  refine fn_ob tt_ok mixed Try.func74 rfl (fun _ _ => by kernel_rfl) (A := fun ds => ⟨fun _ => Cons.of [(65, norm8C)], fun _ => none, fun _ => none⟩) (fun _ _ => (cons_cons norm8_ok cons_nil)) (by kernel_rfl) ?_
  intro ds fr
  unfold rwiden8S
  split
  · rename_i a b c d
    refine kmp (q := (decide (a > b) = true → (nrm (c, d)).fst = (rwdI (a, b) (c, d)).fst ∧ (nrm (c, d)).snd = (rwdI (a, b) (c, d)).snd) ∧
 (decide (a > b) = false →
 (decide (c > d) = true → a = (rwdI (a, b) (c, d)).fst ∧ b = (rwdI (a, b) (c, d)).snd) ∧
 (decide (c > d) = false →
 (decide (c < a) = true →
 (decide (d > b) = true → (-2147483648 : Int) = (rwdI (a, b) (c, d)).fst ∧ (2147483647 : Int) = (rwdI (a, b) (c, d)).snd) ∧
 (decide (d > b) = false → (-2147483648 : Int) = (rwdI (a, b) (c, d)).fst ∧ b = (rwdI (a, b) (c, d)).snd)) ∧
 (decide (c < a) = false →
 (decide (d > b) = true → a = (rwdI (a, b) (c, d)).fst ∧ (2147483647 : Int) = (rwdI (a, b) (c, d)).snd) ∧
 (decide (d > b) = false → a = (rwdI (a, b) (c, d)).fst ∧ b = (rwdI (a, b) (c, d)).snd))))) (by kernel_rfl) ?_
    (repeat' first | apply And.intro | intro _) <;> grind [nrm, jnI, wdI, rjnI, rwdI, ofI]
  · trivial
end Go.Proofs.Ytbcbcambkjhhhaa.Sx.Z
