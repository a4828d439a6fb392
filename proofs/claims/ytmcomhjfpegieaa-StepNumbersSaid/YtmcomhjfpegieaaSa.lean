/-
  check's expressions as trees, what it is for a value to be such a tree in memory, and the number, or the error, of one.
-/
import Derived.Test.YtmcomhjfpegieaaFb
namespace Go.Proofs.Ytmcomhjfpegieaa
open Go.RowKit

/-- An expression: its kind, number, variable, kids. -/
inductive Ex where
  | mk (kind num var : Int) (kids : List Ex)

/-- v is the tree e, at most d deep, in the world w; its rows lie below block B. -/
def ExIn (w : World) (B : Nat) : Nat → Ex → Value → Prop
  | 0, _, _ => False
  | d + 1, .mk k m x kids, v => ∃ A n c, v = .agg #[.int .i64 k, .int .i64 m, .int .i64 x, .slice A n c] ∧ kids.length = n ∧ n ≤ c ∧
      ∀ i e, kids[i]? = some e → ∃ b v0 v1 v2 v3, A = some ⟨b, 0, none⟩ ∧ b < B ∧ w.cell? ⟨b, i * 4, none⟩ = some v0 ∧ w.cell? ⟨b, i * 4 + 1, none⟩ = some v1 ∧ w.cell? ⟨b, i * 4 + 2, none⟩ = some v2 ∧ w.cell? ⟨b, i * 4 + 3, none⟩ = some v3 ∧
        ExIn w B d e (.agg #[v0, v1, v2, v3])
theorem ExIn.keep {w w' : World} {B : Nat} (hk : ∀ b o, b < B → w'.cell? ⟨b, o, none⟩ = w.cell? ⟨b, o, none⟩) : ∀ (d : Nat) (e : Ex) (v : Value), ExIn w B d e v → ExIn w' B d e v := by
  intro d
  induction d with
  | zero => intro e v h; exact h.elim
  | succ d ih =>
    intro e v h
    match e, h with
    | .mk k m x kids, ⟨A, n, c, hv, hn, hc, hkid⟩ =>
      refine ⟨A, n, c, hv, hn, hc, fun i e he => ?_⟩
      obtain ⟨b, v0, v1, v2, v3, hA, hB, a0, a1, a2, a3, hi⟩ := hkid i e he
      exact ⟨b, v0, v1, v2, v3, hA, hB, (hk b _ hB).trans a0, (hk b _ hB).trans a1, (hk b _ hB).trans a2, (hk b _ hB).trans a3, ih e _ hi⟩
theorem ExIn.below {w w' : World} {B d : Nat} {e : Ex} {v : Value} (h : ExIn w B d e v) (hb : Below B w w') : ExIn w' B d e v :=
  h.keep (fun b o hB => hb.cell (p := ⟨b, o, none⟩) hB) d e v
theorem ExIn.mono {w : World} {B B' : Nat} (hB : B ≤ B') : ∀ (d : Nat) (e : Ex) (v : Value), ExIn w B d e v → ExIn w B' d e v := by
  intro d
  induction d with
  | zero => intro e v h; exact h.elim
  | succ d ih =>
    intro e v h
    match e, h with
    | .mk k m x kids, ⟨A, n, c, hv, hn, hc, hkid⟩ =>
      refine ⟨A, n, c, hv, hn, hc, fun i e he => ?_⟩
      obtain ⟨b, v0, v1, v2, v3, hA, hb, a0, a1, a2, a3, hi⟩ := hkid i e he
      exact ⟨b, v0, v1, v2, v3, hA, Nat.lt_of_lt_of_le hb hB, a0, a1, a2, a3, ih e _ hi⟩
/-- A tree's value is four cells. -/
theorem ExIn.form {w : World} {B d : Nat} {e : Ex} {v : Value} (h : ExIn w B d e v) : ∃ k m x A n c, v = .agg #[.int .i64 k, .int .i64 m, .int .i64 x, .slice A n c] := by
  match d, e, h with
  | d + 1, .mk k m x kids, ⟨A, n, c, hv, _⟩ => exact ⟨k, m, x, A, n, c, hv⟩
/-- A tree without kids. -/
theorem ExIn.leaf (w : World) (B d : Nat) (k m x : Int) : ExIn w B (d + 1) (.mk k m x []) (.agg #[.int .i64 k, .int .i64 m, .int .i64 x, .slice none 0 0]) :=
  ⟨none, 0, 0, rfl, rfl, Nat.le_refl _, fun i e he => by simp at he⟩
/-- A tree of one kid, whose four cells lie in a block of their own. -/
theorem ExIn.one {w : World} {B d b : Nat} {e : Ex} {v0 v1 v2 v3 : Value} (h : ExIn w B d e (.agg #[v0, v1, v2, v3])) (hb : b < B) (h0 : w.cell? ⟨b, 0, none⟩ = some v0) (h1 : w.cell? ⟨b, 1, none⟩ = some v1) (h2 : w.cell? ⟨b, 2, none⟩ = some v2) (h3 : w.cell? ⟨b, 3, none⟩ = some v3) (k m x : Int) (c : Nat) (hc : 1 ≤ c) :
    ExIn w B (d + 1) (.mk k m x [e]) (.agg #[.int .i64 k, .int .i64 m, .int .i64 x, .slice (some ⟨b, 0, none⟩) 1 c]) := by
  refine ⟨_, 1, c, rfl, rfl, hc, fun i e' he => ?_⟩
  match i, he with
  | 0, he =>
    have : e = e' := by simpa using he
    subst this
    exact ⟨b, v0, v1, v2, v3, rfl, hb, h0, h1, h2, h3, h⟩
  | i + 1, he => simp at he
/-- A tree of two kids, whose eight cells lie in a block of their own. -/
theorem ExIn.two {w : World} {B d b : Nat} {e f : Ex} {v0 v1 v2 v3 u0 u1 u2 u3 : Value} (h : ExIn w B d e (.agg #[v0, v1, v2, v3])) (h' : ExIn w B d f (.agg #[u0, u1, u2, u3])) (hb : b < B) (h0 : w.cell? ⟨b, 0, none⟩ = some v0) (h1 : w.cell? ⟨b, 1, none⟩ = some v1) (h2 : w.cell? ⟨b, 2, none⟩ = some v2) (h3 : w.cell? ⟨b, 3, none⟩ = some v3)
    (h4 : w.cell? ⟨b, 4, none⟩ = some u0) (h5 : w.cell? ⟨b, 5, none⟩ = some u1) (h6 : w.cell? ⟨b, 6, none⟩ = some u2) (h7 : w.cell? ⟨b, 7, none⟩ = some u3) (k m x : Int) (c : Nat) (hc : 2 ≤ c) :
    ExIn w B (d + 1) (.mk k m x [e, f]) (.agg #[.int .i64 k, .int .i64 m, .int .i64 x, .slice (some ⟨b, 0, none⟩) 2 c]) := by
  refine ⟨_, 2, c, rfl, rfl, hc, fun i e' he => ?_⟩
  match i, he with
  | 0, he =>
    have : e = e' := by simpa using he
    subst this
    exact ⟨b, v0, v1, v2, v3, rfl, hb, h0, h1, h2, h3, h⟩
  | 1, he =>
    have : f = e' := by simpa using he
    subst this
    exact ⟨b, u0, u1, u2, u3, rfl, hb, h4, h5, h6, h7, h'⟩
  | i + 2, he => simp at he

/-- The variables' numbers lie one behind the other at A, below block B. -/
def VarsAt (w : World) (B : Nat) (A : Option Addr) (vs : List Int) : Prop :=
  ∀ i v, vs[i]? = some v → ∃ b, A = some ⟨b, 0, none⟩ ∧ b < B ∧ w.cell? ⟨b, i, none⟩ = some (.int .i64 v)
theorem VarsAt.below {w w' : World} {B : Nat} {A : Option Addr} {vs : List Int} (h : VarsAt w B A vs) (hb : Below B w w') : VarsAt w' B A vs := fun i v hi => by
  obtain ⟨b, hA, hB, hc⟩ := h i v hi
  exact ⟨b, hA, hB, (hb.cell (p := ⟨b, i, none⟩) hB).trans hc⟩
theorem VarsAt.mono {w : World} {B B' : Nat} {A : Option Addr} {vs : List Int} (h : VarsAt w B A vs) (hB : B ≤ B') : VarsAt w B' A vs := fun i v hi => by
  obtain ⟨b, hA, hb, hc⟩ := h i v hi
  exact ⟨b, hA, Nat.lt_of_lt_of_le hb hB, hc⟩

/-- A number, if it is one of 32 bits; else the kind of an overflow. -/
def cutI (n : Int) : Int × Int := if -2147483648 ≤ n ∧ n ≤ 2147483647 then (n, 0) else (0, 2)
/-- What an operation makes of two numbers. -/
def opI (k a b : Int) : Int × Int :=
  if k = 4 then cutI (a + b) else if k = 5 then cutI (a - b) else if k = 6 then cutI (a * b) else if b = 0 then (0, 3) else if k = 7 then cutI (a.tdiv b) else cutI (a.tmod b)
/-- Of two, the left one ahead. -/
def two (l r : Int × Int) (f : Int → Int → Int × Int) : Int × Int := if l.2 ≠ 0 then (0, l.2) else if r.2 ≠ 0 then (0, r.2) else f l.1 r.1
/-- The number of an expression, or 0 and the kind of an error. -/
def evF (vs : List Int) : Nat → Ex → Int × Int
  | 0, _ => (0, 0)
  | d + 1, .mk k m x kids =>
    if k = 1 then cutI m
    else if k = 2 then (if 0 ≤ x ∧ x < (vs.length : Int) then cutI (vs.getD x.toNat 0) else (0, 0))
    else if k = 3 then (match kids with
      | [a] => if (evF vs d a).2 ≠ 0 then (0, (evF vs d a).2) else cutI (- (evF vs d a).1)
      | _ => (0, 0))
    else if 4 ≤ k ∧ k ≤ 8 then (match kids with
      | [a, b] => two (evF vs d a) (evF vs d b) (opI k)
      | _ => (0, 0))
    else (0, 0)
def InR (p : Int × Int) : Prop := -2147483648 ≤ p.1 ∧ p.1 ≤ 2147483647 ∧ (p.2 = 0 ∨ p.2 = 2 ∨ p.2 = 3) ∧ (p.2 = 0 ∨ p.1 = 0)
theorem cutI_in (n : Int) : InR (cutI n) := by
  unfold cutI InR
  split <;> simp <;> omega
theorem opI_in (k a b : Int) : InR (opI k a b) := by
  unfold opI
  repeat' split
  all_goals first | exact cutI_in _ | (unfold InR; simp)
theorem evF_in (vs : List Int) : ∀ (d : Nat) (e : Ex), InR (evF vs d e) := by
  intro d
  induction d with
  | zero => intro e; unfold evF InR; simp
  | succ d ih =>
    intro e
    obtain ⟨k, m, x, kids⟩ := e
    unfold evF
    repeat' split
    all_goals first
      | exact cutI_in _
      | (unfold InR; simp; done)
      | (rename_i a _; have := ih a; unfold InR at *; simp; omega)
      | (rename_i a b _; have h1 := ih a; have h2 := ih b; unfold two; repeat' split
         all_goals first | exact opI_in _ _ _ | (unfold InR at *; simp; omega))
      | (rename_i a; have := ih a; unfold InR at *; simp; omega)
      | (rename_i a b; have h1 := ih a; have h2 := ih b; unfold two; repeat' split
         all_goals first | exact opI_in _ _ _ | (unfold InR at *; simp; omega))
end Go.Proofs.Ytmcomhjfpegieaa
