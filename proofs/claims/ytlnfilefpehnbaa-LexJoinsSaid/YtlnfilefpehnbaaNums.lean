/-
  Small facts on integers and on bytes made into texts, for the walks of the laws.
-/
import Derived.Test.YtlnfilefpehnbaaReads
import Derived.Laws.IdiomStrings
namespace Go.Proofs.Ytlnfilefpehnbaa
open Go.RowKit

theorem u64_pos (n : Int) : 0 ≤ IntKind.u64.wrap n := by
  show 0 ≤ n % _
  exact Int.emod_nonneg _ (by decide)

/-- make([]byte, n): zeros in a new block. -/
theorem mk_bytes (K : Nat) (hK : K ≤ 281474976710656) : ∃ M : Array Value, M.size = K ∧ ∀ W : World, (Instr.makeSlice 38 (.int .i64 (K : Int)) (.int .i64 (K : Int))).run Try.prog W = .ok (.slice (some ⟨W.heap.size, 0, none⟩) K K) (W.alloc (.cells M 5)) := by
  obtain ⟨i0, hi, hz0, hz1, hz2⟩ := info_parts info_u8
  refine ⟨madeCells (Value.int .u8 0).cells (((K : Nat) : Int).toNat * i0.size), by rw [size_madeCells, hz1]; simp, fun W => ?_⟩
  have h := run_make (P := Try.prog) W 38 5 i0 (.int .u8 0) Try.underlying38 hi hz0 .i64 .i64 (K : Int) (K : Int) (by omega) (by omega) (by rw [hz2]; omega) (by omega)
  simpa using h
/-- string(b), b in a block of the call's own. -/
theorem cv_bytes (w : World) (g cap : Nat) (l : List UInt8) (hc : ∀ j (hj : j < l.length), w.cell? ⟨g, j, none⟩ = some (.int .u8 (l[j].toNat : Int))) :
    (convert 38 9 (.slice (some ⟨g, 0, none⟩) l.length cap)).run Try.prog w = .ok (.string ⟨l.toArray⟩) w :=
  run_convert_bytes_back w 38 9 5 ⟨g, 0, none⟩ cap l Try.underlying38 Try.underlying5 Try.underlying9 fun j hj => by
    have e : (⟨g, 0, none⟩ : Addr).add j = ⟨g, j, none⟩ := by unfold Addr.add; split <;> simp_all
    rw [e]
    exact hc j hj
theorem lex_bad' {s : ByteArray} {p : Nat} {x q : Int} (h : lexR s = ([], p, x)) (hq : (p : Int) = q) (w : World) (hs : s.size ≤ 140737488351232) :
    Calls Try.prog 11 #[.string s] w fun e w' => ∃ A c, e = .returned (.tuple #[.slice A 0 c, .int .i64 q, .int .i64 x]) ∧ Below w.heap.size w w' := by
  subst hq
  exact lex_bad h w hs
/-- How long a text is. -/
def strLen : Value → Nat
  | .string s => s.size
  | _ => 0
theorem size_of {T : ByteArray} {l : List UInt8} (h : T.data.toList = l) : T.size = l.length := by
  rw [← h]; simp
/-- The cells of the i-th word. -/
theorem tcells_at : ∀ (ts : List Tok) (i : Nat) (t : Tok), ts[i]? = some t → (tcells ts)[i * 4]? = some (.int .i64 t.kind) ∧ (tcells ts)[i * 4 + 1]? = some (.string t.text) ∧ (tcells ts)[i * 4 + 2]? = some (.int .i64 t.num) ∧ (tcells ts)[i * 4 + 3]? = some (.int .i64 t.pos) := by
  intro ts
  induction ts with
  | nil => intro i t h; simp at h
  | cons a ts ih =>
    intro i t h
    have e : tcells (a :: ts) = [.int .i64 a.kind, .string a.text, .int .i64 a.num, .int .i64 a.pos] ++ tcells ts := rfl
    match i with
    | 0 =>
      simp at h
      subst h
      exact ⟨rfl, rfl, rfl, rfl⟩
    | i + 1 =>
      obtain ⟨h1, h2, h3, h4⟩ := ih i t (by simpa using h)
      rw [e]
      refine ⟨?_, ?_, ?_, ?_⟩
      · rw [List.getElem?_append_right (by simp; omega), ← h1]; congr 1; simp; omega
      · rw [List.getElem?_append_right (by simp; omega), ← h2]; congr 1; simp; omega
      · rw [List.getElem?_append_right (by simp; omega), ← h3]; congr 1; simp; omega
      · rw [List.getElem?_append_right (by simp; omega), ← h4]; congr 1; simp; omega
theorem below_drewN {B : Nat} {a w : World} (h : Below B a w) (n : Nat) : Below B a (w.drewN n) := ⟨h.os, h.tape, h.output, h.size, h.block⟩
theorem lexR_len {s : ByteArray} {acc : List Tok} (h : lexR s = (acc, 0, 0)) : acc.length ≤ 2000 := by
  unfold lexR at h
  split at h
  · injection h with h _
    subst h
    exact Nat.zero_le _
  · split at h
    · injection h with h _
      subst h
      exact Nat.zero_le _
    · injection h with h _
      subst h
      omega
end Go.Proofs.Ytlnfilefpehnbaa
