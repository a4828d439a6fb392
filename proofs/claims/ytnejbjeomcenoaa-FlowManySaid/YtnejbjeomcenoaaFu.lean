/-
  What Inputs lay: so many edges, and a node more; with more than four hundred the laying stops.
-/
import Derived.Test.YtnejbjeomcenoaaFh
namespace Go.Proofs.Ytnejbjeomcenoaa
open Go.RowKit

/-- What an Input of the first variable lays. -/
def inpF (_ : Nat) (a b : Int) (s : Ls) : Ls := { s with ne := s.ne + 1, es := s.es ++ [.int .i64 a, .int .i64 b, .int .i64 6, .int .i64 0, .int .i64 0, .int .i64 0, .int .i64 0, .int .i64 0, .int .i64 0, .slice none 0 0, .int .i64 0, .int .i64 0, .int .i64 0, .int .i64 0, .slice none 0 0, .int .i64 0, .int .i64 0, .int .i64 0, .slice none 0 0] }
theorem inp_lays (W : World) (base : Nat) (i : Nat) : StLay W base [.int .i64 7, .int .i64 0, .int .i64 0, .int .i64 0, .int .i64 0, .int .i64 0, .int .i64 0, .slice none 0 0, .int .i64 0, .int .i64 0, .int .i64 0, .int .i64 0, .slice none 0 0, .int .i64 0, .int .i64 0, .int .i64 0, .slice none 0 0, .slice none 0 0, .slice none 0 0, .slice none 0 0] (inpF i) := fun W' g s a b _ hL hn h0 h1 =>
  (lay_inp W' base g s.N s.ne s.es s.nh s.hs 0 a b hL (by omega)).mono fun e w' ⟨he, hl, hb⟩ => ⟨he, hl, hb⟩
theorem inp_N (i : Nat) (a b : Int) (s : Ls) : s.N ≤ (inpF i a b s).N ∧ (inpF i a b s).N ≤ s.N + 1000 := by unfold inpF; constructor <;> simp <;> omega
theorem inp_few (to : Int) : ∀ (r i : Nat) (a : Int) (s : Ls), s.ne + r + 1 ≤ 401 → (bodyF inpF to (r + 1) i a s).ne = s.ne + r + 1 ∧ (bodyF inpF to (r + 1) i a s).N = s.N + r ∧ (bodyF inpF to (r + 1) i a s).nh = s.nh := by
  intro r
  induction r with
  | zero =>
    intro i a s h
    unfold bodyF
    rw [if_neg (by omega), if_pos rfl]
    exact ⟨rfl, by simp [inpF], rfl⟩
  | succ r ih =>
    intro i a s h
    unfold bodyF
    rw [if_neg (by omega), if_neg (by omega)]
    obtain ⟨h1, h2, h3⟩ := ih (i + 1) s.N (inpF i a s.N { s with N := s.N + 1 }) (by show s.ne + 1 + r + 1 ≤ 401; omega)
    refine ⟨h1.trans ?_, h2.trans ?_, h3⟩
    · show s.ne + 1 + r + 1 = _; omega
    · show s.N + 1 + (r : Int) = _; push_cast; omega
theorem inp_many (to : Int) : ∀ (r i : Nat) (a : Int) (s : Ls), s.ne ≤ 401 → 401 ≤ s.ne + r → (bodyF inpF to r i a s).ne = 401 := by
  intro r
  induction r with
  | zero =>
    intro i a s h h2
    unfold bodyF
    omega
  | succ r ih =>
    intro i a s h h2
    unfold bodyF
    by_cases hf : 400 < s.ne
    · rw [if_pos hf]; omega
    · rw [if_neg hf]
      by_cases hr : r = 0
      · rw [if_pos hr]
        show s.ne + 1 = 401
        omega
      · rw [if_neg hr]
        exact ih (i + 1) s.N _ (by show s.ne + 1 ≤ 401; omega) (by show 401 ≤ s.ne + 1 + r; omega)

/-- Cells that are written over, one behind the other. -/
def setAll : List Value → Nat → List Value → List Value
  | xs, _, [] => xs
  | xs, o, v :: r => setAll (xs.set o v) (o + 1) r
theorem setAll_end : ∀ (new old xs : List Value), old.length = new.length → setAll (xs ++ old) xs.length new = xs ++ new
  | [], [], xs, _ => rfl
  | v :: r, o :: os, xs, h => by
    unfold setAll
    have e : (xs ++ o :: os).set xs.length v = (xs ++ [v]) ++ os := by simp
    rw [e, show xs.length + 1 = (xs ++ [v]).length by simp, setAll_end r os (xs ++ [v]) (by simpa using h)]
    simp
theorem own_setCells {b g n cap : Nat} {e : TypeId} {size : Nat} : ∀ (vs : List Value) (o : Nat) (w : World) (xs : List Value), w.ownsRow b e size (.slice (some ⟨g, 0, none⟩) n cap) n xs → (w.setCells g o vs).ownsRow b e size (.slice (some ⟨g, 0, none⟩) n cap) n (setAll xs o vs)
  | [], _, _, _, h => h
  | v :: r, o, w, xs, h => own_setCells r (o + 1) (w.setCell ⟨g, o, none⟩ v) (xs.set o v) (h.stored o v).1
/-- So many statements of the same cells. -/
def rowsN (cs : List Value) (n : Nat) : List Value := (List.replicate n cs).flatten
theorem rowsN_len (cs : List Value) (n : Nat) : (rowsN cs n).length = n * cs.length := by
  unfold rowsN
  induction n with
  | zero => simp
  | succ n ih => rw [List.replicate_succ, List.flatten_cons, List.length_append, ih, Nat.succ_mul]; omega
theorem rowsN_snoc (cs : List Value) (n : Nat) : rowsN cs (n + 1) = rowsN cs n ++ cs := by
  unfold rowsN
  rw [List.replicate_succ', List.flatten_append, List.flatten_cons, List.flatten_nil, List.append_nil]
theorem rowsN_at (cs : List Value) : ∀ (n i j : Nat), i < n → j < cs.length → (rowsN cs n)[i * cs.length + j]? = cs[j]? := by
  intro n
  induction n with
  | zero => intro i j h; omega
  | succ n ih =>
    intro i j hi hj
    have hl := rowsN_len cs n
    rw [rowsN_snoc]
    by_cases h : i < n
    · have hb : i * cs.length + j < n * cs.length := by
        have : (i + 1) * cs.length ≤ n * cs.length := Nat.mul_le_mul_right _ h
        rw [Nat.succ_mul] at this
        omega
      rw [List.getElem?_append_left (by omega), ih i j h hj]
    · obtain rfl : i = n := by omega
      rw [List.getElem?_append_right (by omega), hl, Nat.add_sub_cancel_left]
theorem elems_of_own {w : World} {b n c : Nat} {A : Option Addr} {cs : List Value} (hl : cs.length = 20) (h1 : ∀ x ∈ cs, x.oneCell' = true) (h : w.ownsRow b 40 20 (.slice A n c) n (rowsN cs n)) : ElemsAt w w.heap.size A n 20 (fun _ => cs) := fun i hi => by
  rcases h.2 with ⟨_, h0⟩ | ⟨g, cap, cur, hv, _⟩
  · omega
  · injection hv with e1 _ _
    subst e1
    refine ⟨g, rfl, (h.lt g rfl).2, fun j v hv => ?_, hl, h1⟩
    have hj : j < cs.length := (List.getElem?_eq_some_iff.1 hv).1
    have := h.cells rfl (i * 20 + j) v (by rw [← hl, rowsN_at cs n i j hi hj]; exact hv)
    rwa [Addr.add_mid, Nat.zero_add] at this
end Go.Proofs.Ytnejbjeomcenoaa

