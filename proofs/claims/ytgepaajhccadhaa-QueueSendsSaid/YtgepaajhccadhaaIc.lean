/-
  The least and the greatest of four numbers; what is made of the ends of two.
-/
import Derived.Test.YtgepaajhccadhaaIb
namespace Go.Proofs.Ytgepaajhccadhaa
open Go.RowKit
/-- Two pairs are stored, each into a block. -/
theorem put22 {W WF : World} {n m : Nat} {t u : TypeId} {d0 d1 c0 c1 : Value} (hne : n ≠ m) (h : W.heap[n]? = some (.cells #[d0, d1] t (0, 0))) (g : W.heap[m]? = some (.cells #[c0, c1] u (0, 0))) (v0 v1 u0 u1 : Value) (hW : WF = (((W.setCell ⟨n, 0, none⟩ v0).setCell ⟨n, 1, none⟩ v1).setCell ⟨m, 0, none⟩ u0).setCell ⟨m, 1, none⟩ u1) :
    WF.heap[n]? = some (.cells #[v0, v1] t (0, 0)) ∧ WF.heap[m]? = some (.cells #[u0, u1] u (0, 0)) ∧ (∀ B, B ≤ n → B ≤ m → Below B W WF) := by
  obtain ⟨h1, h2, h3, _⟩ := put2 h v0 v1 rfl
  have g1 := h2 m _ (Ne.symm hne) g
  obtain ⟨g2, g3, g4, _⟩ := put2 g1 u0 u1 hW
  exact ⟨g3 n _ hne h1, g2, fun B b1 b2 => (h3 B b1).trans (g4 B b2)⟩

def bot (f : Int → Int → Int) (a0 a1 b0 b1 : Int) : Int := mn (mn (mn (f a0 b0) (f a0 b1)) (f a1 b0)) (f a1 b1)
def top (f : Int → Int → Int) (a0 a1 b0 b1 : Int) : Int := mx (mx (mx (f a0 b0) (f a0 b1)) (f a1 b0)) (f a1 b1)
def FnOk (n : Nat) (f : Int → Int → Int) (a0 a1 b0 b1 : Int) : Prop := ∀ (x y : Int) (w : World), (x = a0 ∨ x = a1) → (y = b0 ∨ y = b1) → Calls Try.prog n #[.int .i64 x, .int .i64 y] w fun e w' => e = .returned (.int .i64 (f x y)) ∧ w = w'

end Go.Proofs.Ytgepaajhccadhaa
