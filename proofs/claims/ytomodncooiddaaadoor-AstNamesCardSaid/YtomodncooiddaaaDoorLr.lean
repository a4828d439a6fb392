/-
  ast.Text, walked over whatever is known of Words.
-/
import Derived.Test.YtomodncooiddaaaDoorLq
namespace Go.Proofs.YtomodncooiddaaaDoor
open Go.RowKit
/-- The words, each with a blank behind it. -/
def txC : List ByteArray → List Value
  | [] => []
  | s :: l => Lib.strCells s ++ (.int .u8 32 :: txC l)
theorem txC_append (l m : List ByteArray) : txC (l ++ m) = txC l ++ txC m := by
  induction l with
  | nil => rfl
  | cons s l ih => simp [txC, ih]
theorem txC_size (l : List ByteArray) (h : ∀ s, s ∈ l → s.size ≤ 1000000000) : (txC l).length ≤ l.length * 1000000001 := by
  induction l with
  | nil => simp [txC]
  | cons s l ih =>
    have h1 := h s (by simp)
    have h2 := ih fun t ht => h t (by simp [ht])
    simp only [txC, List.length_append, List.length_cons, Lib.strCells_length]
    omega
theorem below_cell {w w' : World} (hb : Below w.heap.size w w') {p : Addr} {v : Value} (h : w.cell? p = some v) : w'.cell? p = some v := by
  unfold World.cell? at h ⊢
  rcases Nat.lt_or_ge p.block w.heap.size with hlt | hge
  · rw [hb.block _ hlt]; exact h
  · rw [Array.getElem?_eq_none hge] at h; cases h
def txB (l : List ByteArray) : List UInt8 := (l.map fun s => s.data.toList ++ [32]).flatten

theorem txC_bytes (l : List ByteArray) : txC l = Lib.byteCells (txB l) := by
  induction l with
  | nil => rfl
  | cons s l ih =>
    have e : txB (s :: l) = s.data.toList ++ (32 :: txB l) := by simp [txB]
    rw [e, txC, ih]
    simp [Lib.byteCells, Lib.strCells]
theorem bld_new (w : World) : Bld w.heap.size w.heap.size (.pointer none) [] (w.alloc (.cells #[.pointer none, .slice none 0 0] 124)) :=
  ⟨Nat.le_refl _,   .slice none 0 0, by show (w.heap.push _)[w.heap.size]? = _; exact Array.getElem?_push_size, World.ownsRow_nil _ _ _ _, by intro h; cases h⟩

set_option maxRecDepth 100000 in
set_option maxHeartbeats 4000000 in
theorem text_walk (a b c : Value) (w : World) (Q : Ending → World → Prop)
    (hW : Calls Tryd.prog 8 #[.agg #[a, b, c]] (w.alloc (.cells #[a, b, c] 47)) fun e w2 =>
      ∃ (A : Option Addr) (n k : Nat) (er : Int) (l : List ByteArray), e = .returned (.tuple #[.slice A n k, .int .i64 er]) ∧ l.length = n ∧ n ≤ 2000 ∧ (∀ i (h : i < l.length), l[i].size ≤ 1000000000 ∧ ∃ p, A = some p ∧ w2.cell? (p.add i) = some (.string l[i])) ∧
      (er ≠ 0 → ∀ w', Below w2.heap.size w2 w' → Q (.returned (.tuple #[.string ⟨#[]⟩, .int .i64 er])) w') ∧ (er = 0 → ∀ w', Below w2.heap.size w2 w' → Q (.returned (.tuple #[.string ⟨(txB l).toArray⟩, .int .i64 0])) w')) :
    Calls Tryd.prog 12 #[.agg #[a, b, c]] w Q := by
  go_enter Tryd.func12, Tryd.ntmps12
  go_wp2_with (first | (go_at_call 8; refine hW.mono ?_) | fail)
  rintro e w2 ⟨A, n, k, er, l, rfl, hl, hn, hc, h1, h2⟩
  by_cases h0 : er = 0
  · subst h0
    have h2 := h2 rfl
    go_wp2_with fail
    have hsz : ∀ t, t ∈ l → t.size ≤ 1000000000 := fun t ht => by
      obtain ⟨i, hi, rfl⟩ := List.getElem_of_mem ht
      exact (hc i hi).1
    go_loopw [19] (fun i wr => ∃ (q : Nat) (p : Value), q ≤ n ∧ i = .int .i64 q ∧ (p = .pointer none ∨ p = me w2.heap.size) ∧ Bld w2.heap.size w2.heap.size p (txC (l.take q)) wr ∧ Below w2.heap.size w2 wr) (fun i _ => n - (intOf i).toNat)
    case atStart => exact ⟨0, .pointer none, Nat.zero_le _, rfl, .inl rfl, bld_new w2, (Below.refl _ _).alloc (Nat.le_refl _) _⟩
    case round =>
      obtain ⟨q, p, hq, rfl, hp, hB, hb2⟩ := hrel
      by_cases hlt : q < n
      · obtain ⟨hs1, pa, rfl, hcell⟩ := hc q (by omega)
        have hcell2 := below_cell hb2 hcell
        have hl2 : (txC (l.take q)).length ≤ 2000 * 1000000001 := by
          have := txC_size (l.take q) fun t ht => hsz t (List.mem_of_mem_take ht)
          have h3 : (l.take q).length ≤ 2000 := by rw [List.length_take]; omega
          exact Nat.le_trans this (Nat.mul_le_mul_right _ h3)
        have hbs := hb2.size
        go_wp2_with fail
        refine (ws_any w2.heap.size w2.heap.size p hp _ l[q] wr hB (by omega) hbs).mono ?_
        rintro e w3 ⟨rfl, hB3, hb3⟩
        have hbs3 := hb3.size
        go_wp2_with fail
        refine (wb_any w2.heap.size w2.heap.size _ (.inr rfl) _ 32 w3 hB3 (by rw [List.length_append, Lib.strCells_length]; omega) (by omega)).mono ?_
        rintro e w4 ⟨rfl, hB4, hb4⟩
        have et : txC (l.take q) ++ Lib.strCells l[q] ++ [.int .u8 32] = txC (l.take (q + 1)) := by
          rw [List.take_add_one, List.getElem?_eq_getElem (by omega), txC_append]
          simp [txC]
        rw [et] at hB4
        go_wp2_with fail
        go_roundw
        case rel => exact ⟨q + 1, me w2.heap.size, hlt, by go_num, .inr rfl, hB4, (hb2.trans hb3).trans hb4⟩
        case measure => simp [intOf]; omega
      · have hqn : q = n := by omega
        subst hqn
        have el : l.take q = l := by rw [← hl, List.take_length]
        rw [el, txC_bytes] at hB
        have hIs : Lib.IsBuilder 124 5 w2.heap.size w2.heap.size (Lib.byteCells (txB l)) wr := by
          rcases hp with rfl | rfl
          · exact .inl hB
          · exact .inr hB
        go_wp2_with (first | (go_at_call 32; refine (Tryd.Builder_String_any _ _ _ _ hIs hb2.size).mono ?_; rintro e w5 ⟨rfl, hb5⟩) | fail)
        exact h2 trivial w5 (hb2.trans hb5)
  · have h1 := h1 h0
    go_wp2_with fail
    exact Below.refl _ _
end Go.Proofs.YtomodncooiddaaaDoor
