/-
  The document's answer for reserved words and for signs, as the reference functions compute it: the same as resB and sgnLen.
-/
import Derived.Test.YtlnfilefpehnbaaName
import Derived.Test.YtlnfilefpehnbaaPlainRef
import Derived.Deep.QuietTactic
import Derived.BigQuiet
namespace Go.Proofs.Ytlnfilefpehnbaa
open Go.RowKit

def resW : List ByteArray := [⟨#[99, 104, 97, 110]⟩, ⟨#[98, 108, 111, 99, 107]⟩, ⟨#[100, 114, 111, 112]⟩, ⟨#[108, 111, 115, 115, 121]⟩, ⟨#[102, 114, 111, 109]⟩, ⟨#[116, 111]⟩,
  ⟨#[114, 117, 108, 101]⟩, ⟨#[112, 114, 111, 99]⟩, ⟨#[118, 97, 114]⟩, ⟨#[105, 102]⟩, ⟨#[101, 108, 115, 101]⟩, ⟨#[119, 104, 105, 108, 101]⟩,
  ⟨#[115, 101, 110, 100]⟩, ⟨#[114, 101, 99, 118]⟩, ⟨#[97, 115, 115, 101, 114, 116]⟩, ⟨#[105, 110, 112, 117, 116]⟩]
def resCells : Array Value := (resW.map Value.string).toArray
theorem resB_any (s : ByteArray) : resB s.toList = resW.any fun x => x.toList == s.toList := by
  rw [Bool.eq_iff_iff]
  simp only [resW, resB, List.any_cons, List.any_nil, Bool.or_false, Bool.or_eq_true, beq_iff_eq, Lib.toList_data]
  simp only [or_assoc, eq_comm (b := s.data.toList)]

theorem rwords_any (w : World) : Calls Try.prog 22 #[] w fun e w' => e = .returned (.slice (some ⟨w.heap.size, 0, none⟩) 16 16) ∧ w.alloc (.cells resCells 9) = w' := by
  go_enter Try.func22, Try.ntmps22
  go_wp2
  go_ret
  exact ⟨rfl, rfl⟩

/-- None of the first k words is s. -/
def NoneOf (s : ByteArray) (k : Nat) : Prop := ∀ j, j < k → ((resW.getD j ⟨#[]⟩).toList == s.toList) = false

set_option maxHeartbeats 1000000 in
theorem rres_any (s : ByteArray) (w : World) : Calls Try.prog 15 #[.string s] w fun e w' => e = .returned (.bool (resB s.toList)) ∧ Below w.heap.size w w' := by
  have hcells : ∀ k, k < 16 → (w.alloc (.cells resCells 9)).cell? ⟨w.heap.size, k, none⟩ = some (.string (resW.getD k ⟨#[]⟩)) := by
    intro k hk
    have h := cell_of_row (w.alloc (.cells resCells 9)) w.heap.size k resCells 9 (0, 0) (heap_alloc_new w _)
    rw [h]
    match k, hk with
    | 0, _ => rfl
    | 1, _ => rfl
    | 2, _ => rfl
    | 3, _ => rfl
    | 4, _ => rfl
    | 5, _ => rfl
    | 6, _ => rfl
    | 7, _ => rfl
    | 8, _ => rfl
    | 9, _ => rfl
    | 10, _ => rfl
    | 11, _ => rfl
    | 12, _ => rfl
    | 13, _ => rfl
    | 14, _ => rfl
    | 15, _ => rfl
    | n + 16, h => omega
  have hb : Below w.heap.size w (w.alloc (.cells resCells 9)) := (Below.refl _ _).alloc (Nat.le_refl _) _
  have Hcells := Lib.hid hcells
  clear hcells
  go_enter Try.func15, Try.ntmps15
  go_wp2_with (go_at_call 22; refine (rwords_any _).mono ?_; rintro e w1 ⟨rfl, hw1⟩)
  generalize hW : w.alloc (.cells resCells 9) = W at *
  subst hw1
  clear hW
  go_loop [4] (fun i => ∃ k : Nat, k ≤ 16 ∧ NoneOf s k ∧ i = .int .i64 k) (fun i => 16 - (intOf i).toNat)
  case atStart => exact ⟨0, by omega, fun j h => by omega, rfl⟩
  case round =>
    obtain ⟨k, hk, hnone, rfl⟩ := hrel
    by_cases hlt : k < 16
    · have hc := Hcells.out k hlt
      rcases Bool.eq_false_or_eq_true ((resW.getD k ⟨#[]⟩).toList == s.toList) with he | he
      · have Hfin := Lib.hid (show resB s.toList = true by
          rw [resB_any, List.any_eq_true]
          have hl : k < resW.length := hlt
          exact ⟨resW.getD k ⟨#[]⟩, by rw [List.getD_eq_getElem?_getD, List.getElem?_eq_getElem hl]; exact List.getElem_mem _, he⟩)
        generalize resW.getD k ⟨#[]⟩ = x at *
        go_wp2_with fail
        go_ret
        exact ⟨by rw [Hfin.out]; rfl, hb⟩
      · have hnone' : NoneOf s (k + 1) := fun j hj => by
          rcases Nat.lt_or_ge j k with h | h
          · exact hnone j h
          · rw [show j = k from by omega]; exact he
        generalize resW.getD k ⟨#[]⟩ = x at *
        go_wp2_with fail
        go_round
        case rel => exact ⟨k + 1, by omega, hnone', by go_num⟩
        case measure => simp [intOf]; omega
    · have Hfin := Lib.hid (show resB s.toList = false by
        rw [resB_any, List.any_eq_false]
        intro x hx
        obtain ⟨j, hj, rfl⟩ := List.getElem_of_mem hx
        have h1 := hnone j (by have : resW.length = 16 := rfl; omega)
        rw [List.getD_eq_getElem?_getD, List.getElem?_eq_getElem hj] at h1
        simpa using h1)
      go_wp2_with fail
      go_ret
      exact ⟨by rw [Hfin.out]; rfl, hb⟩
end Go.Proofs.Ytlnfilefpehnbaa
