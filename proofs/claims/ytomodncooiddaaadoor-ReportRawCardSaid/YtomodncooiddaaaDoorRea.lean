/-
  Numbers as words, by the reference.
-/
import Derived.Test.YtomodncooiddaaaDoorLg
import Derived.Test.YtomodncooiddaaaDoorSxW
namespace Go.Proofs.YtomodncooiddaaaDoor.Sx.Z
open Go.RowKit
def mkB (l : List UInt8) : ByteArray := ⟨l.toArray⟩
theorem mkB_app (a b : List UInt8) : mkB a ++ mkB b = mkB (a ++ b) := by
  apply ByteArray.ext
  apply Array.toList_inj.1
  simp [mkB, ByteArray.data_append]
theorem mkB_list (l : List UInt8) : (mkB l).toList = l := by
  rw [ByteArray.toList_eq]; rfl
theorem dec_rec (u : Nat) : Lib.decDigits u = if u < 10 then [UInt8.ofNat (48 + u)] else Lib.decDigits (u / 10) ++ [UInt8.ofNat (48 + u % 10)] := by
  rw [Lib.decDigits]
  split <;> rfl
theorem dec_len {u : Nat} (h : u < 18446744073709551616) : (Lib.decDigits u).length ≤ 20 := by
  rw [Lib.decDigits_length]; exact Lib.nDigits_le20 u h
def dgI (n : Int) (q : Nat × List UInt8) : Prop := (q.1 : Int) < 18446744073709551616 ∧ (0 < q.1 → Lib.decDigits n.toNat = Lib.decDigits q.1 ++ q.2) ∧ (q.1 = 0 → (q.2 = [] ∧ n.toNat = 0) ∨ (q.2 ≠ [] ∧ Lib.decDigits n.toNat = q.2))
def dgS (n : Int) : ByteArray := mkB (Lib.decDigits n.toNat)
theorem dgI_len {n : Int} {q : Nat × List UInt8} (h : dgI n q) (hn : n < 18446744073709551616) : q.2.length ≤ 20 := by
  obtain ⟨_, h1, h2⟩ := h
  have hl := dec_len (u := n.toNat) (by omega)
  rcases Nat.eq_zero_or_pos q.1 with h0 | h0
  · rcases h2 h0 with ⟨e, _⟩ | ⟨_, e⟩
    · rw [e]; exact Nat.zero_le _
    · rw [← e]; exact hl
  · have := h1 h0
    rw [this, List.length_append] at hl
    omega
theorem dgI_step {n : Int} {m : Nat} {l : List UInt8} (h : dgI n (m, l)) (hc : 0 < m ∨ l = []) : dgI n (m / 10, UInt8.ofNat (48 + m % 10) :: l) := by
  obtain ⟨h0, h1, h2⟩ := h
  have h0 : (m : Int) < 18446744073709551616 := h0
  refine ⟨(show ((m / 10 : Nat) : Int) < 18446744073709551616 by omega), fun hp => ?_, fun hz => .inr ⟨by simp, ?_⟩⟩
  · have hp : 0 < m / 10 := hp
    have h1 := h1 (show 0 < m by omega)
    show Lib.decDigits n.toNat = Lib.decDigits (m / 10) ++ (UInt8.ofNat (48 + m % 10) :: l)
    rw [h1, dec_rec m, if_neg (by omega), List.append_assoc]; rfl
  · have hz : m / 10 = 0 := hz
    show Lib.decDigits n.toNat = UInt8.ofNat (48 + m % 10) :: l
    rcases Nat.eq_zero_or_pos m with e | e
    · rcases h2 e with ⟨a, b⟩ | ⟨a, _⟩
      · have a : l = [] := a
        rw [b, a, e]; rw [dec_rec 0]; rfl
      · rcases hc with hc | hc
        · omega
        · exact absurd hc a
    · rw [h1 e, dec_rec m, if_pos (by omega)]
      rw [show m % 10 = m by omega]; rfl
/-- A number's word, with its sign. -/
theorem itW_neg {n : Int} (h : n < 0) : itW n = ⟨#[45]⟩ ++ dgS (-n) := by
  unfold itW dgS Lib.itoa
  rw [if_pos h, show (-n).toNat = n.natAbs by omega]
  exact (mkB_app [45] _).symm
theorem itW_nn {n : Int} (h : 0 ≤ n) : itW n = dgS n := by
  unfold itW dgS Lib.itoa
  rw [if_neg (by omega)]; rfl
noncomputable def digS : FSpec := fun ds _ => match ds with
  | [.i n] => some { val := .one (.sc (.raw (.string (dgS n)))), vc := [0 ≤ n ∧ n < 18446744073709551616] }
  | _ => none
noncomputable def digC : Con := con [.sc (.int .u64)] digS
theorem dig_ok : ConOK Tryd.prog 62 digC := by
  refine fn_ob tt_ok mixed Tryd.func62 rfl (fun _ _ => by kernel_rfl) (A := fun ds => ⟨fun _ => Cons.of [], fun k => match k, ds with | 2, [.i n] => some { ι := Nat × List UInt8, pre := fun _ q => dgI n q, μ := fun q => 2 * q.1 + (if q.2.isEmpty then 1 else 0), st := fun s q => famR s [(0, .one (.sc (.int .u64 (.sym (q.1 : Int))))), (3, .one (.sc (.raw (.string (mkB q.2)))))] [2] [] [] } | _, _ => none, fun _ => none⟩) (fun _ _ => cons_nil) (by kernel_rfl) ?_
  intro ds fr
  unfold digS
  split
  · rename_i n
    refine kmp (q := (0 : Int) ≤ n ∧ n < (18446744073709551616 : Int) →
 (∃ (i : Nat × List UInt8),
 ((↑i.fst : Int) < (18446744073709551616 : Int) ∧
 ((0 : Nat) < i.fst → Lib.decDigits n.toNat = Lib.decDigits i.fst ++ i.snd) ∧
 (i.fst = (0 : Nat) → i.snd = [] ∧ n.toNat = (0 : Nat) ∨ i.snd ≠ [] ∧ Lib.decDigits n.toNat = i.snd)) ∧
 n = (↑i.fst : Int) ∧ Value.string (ByteArray.mk #[]) = Value.string (mkB i.snd) ∧ Value.string (ByteArray.mk #[]) = Value.string (ByteArray.mk #[])) ∧
 ∀ (i : Nat × List UInt8),
 (↑i.fst : Int) < (18446744073709551616 : Int) ∧
 ((0 : Nat) < i.fst → Lib.decDigits n.toNat = Lib.decDigits i.fst ++ i.snd) ∧
 (i.fst = (0 : Nat) → i.snd = [] ∧ n.toNat = (0 : Nat) ∨ i.snd ≠ [] ∧ Lib.decDigits n.toNat = i.snd) →
 ((decide ((↑i.fst : Int) > (0 : Int)) || (mkB i.snd).toList == (ByteArray.mk #[]).toList) = true →
 (0 : Nat) < (1 : Nat) ∧
 (0 : Nat) + (1 : Nat) ≤ (D.l [[D.i (IntKind.u8.wrap (IntKind.u64.wrap ((48 : Int) + (↑i.fst : Int).tmod (10 : Int))))]]).len ∧
 (∀ (i_1 : Nat),
 i_1 < (1 : Nat) →
 (0 : Int) ≤
 ((D.l [[D.i (IntKind.u8.wrap (IntKind.u64.wrap ((48 : Int) + (↑i.fst : Int).tmod (10 : Int))))]]).el ((0 : Nat) + i_1)
 (0 : Nat)).toI ∧
 ((D.l [[D.i (IntKind.u8.wrap (IntKind.u64.wrap ((48 : Int) + (↑i.fst : Int).tmod (10 : Int))))]]).el ((0 : Nat) + i_1) (0 : Nat)).toI <
 (256 : Int)) ∧
 (↑((ByteArray.mk (List.map
 (fun (i_1 : Nat) =>
 UInt8.ofNat
 ((D.l [[D.i (IntKind.u8.wrap (IntKind.u64.wrap ((48 : Int) + (↑i.fst : Int).tmod (10 : Int))))]]).el ((0 : Nat) + i_1)
 (0 : Nat)).toI.toNat)
 (List.range (1 : Nat))).toArray).size +
 (mkB i.snd).size) :
 Int) ≤
 IntKind.i64.max ∧
 ∃ (j : Nat × List UInt8),
 ((↑j.fst : Int) < (18446744073709551616 : Int) ∧
 ((0 : Nat) < j.fst → Lib.decDigits n.toNat = Lib.decDigits j.fst ++ j.snd) ∧
 (j.fst = (0 : Nat) → j.snd = [] ∧ n.toNat = (0 : Nat) ∨ j.snd ≠ [] ∧ Lib.decDigits n.toNat = j.snd)) ∧
 (((2 : Nat) * j.fst + if j.snd.isEmpty = true then (1 : Nat) else (0 : Nat)) <
 (2 : Nat) * i.fst + if i.snd.isEmpty = true then (1 : Nat) else (0 : Nat)) ∧
 IntKind.u64.wrap ((↑i.fst : Int).tdiv (10 : Int)) = (↑j.fst : Int) ∧
 Value.string
 ((ByteArray.mk (List.map
 (fun (i_1 : Nat) =>
 UInt8.ofNat
 ((D.l [[D.i (IntKind.u8.wrap (IntKind.u64.wrap ((48 : Int) + (↑i.fst : Int).tmod (10 : Int))))]]).el
 ((0 : Nat) + i_1) (0 : Nat)).toI.toNat)
 (List.range (1 : Nat))).toArray) ++
 mkB i.snd) =
 Value.string (mkB j.snd) ∧
 Value.string (ByteArray.mk #[]) = Value.string (ByteArray.mk #[])) ∧
 ((decide ((↑i.fst : Int) > (0 : Int)) || (mkB i.snd).toList == (ByteArray.mk #[]).toList) = false → Value.string (mkB i.snd) = Value.string (dgS n))) (by kernel_rfl) ?_
    rintro ⟨hn, hn2⟩
    refine ⟨⟨(n.toNat, []), ⟨by show ((n.toNat : Nat) : Int) < 18446744073709551616; omega, fun _ => (List.append_nil _).symm, fun h => .inl ⟨rfl, h⟩⟩, by show n = ((n.toNat : Nat) : Int); omega, rfl, rfl⟩, ?_⟩
    rintro ⟨m, l⟩ hI
    have hI : dgI n (m, l) := hI
    have hl := dgI_len hI hn2
    have hm : (m : Int) < 18446744073709551616 := hI.1
    have hl : l.length ≤ 20 := hl
    dsimp only
    have e0 : (ByteArray.mk #[]).toList = [] := mkB_list []
    rw [mkB_list, e0]
    have et : (m : Int).tmod 10 = ((m % 10 : Nat) : Int) := by rw [Int.tmod_eq_emod_of_nonneg (by omega)]; omega
    have ew : IntKind.u8.wrap (IntKind.u64.wrap (48 + (m : Int).tmod 10)) = ((48 + m % 10 : Nat) : Int) := by
      rw [et, IntKind.wrap_u64, IntKind.wrap_u8]; omega
    have eq : IntKind.u64.wrap ((m : Int).tdiv 10) = ((m / 10 : Nat) : Int) := by
      rw [Int.tdiv_eq_ediv_of_nonneg (by omega), IntKind.wrap_u64]; omega
    refine ⟨fun hc => ?_, fun hc => ?_⟩
    · have hc : 0 < m ∨ l = [] := by
        simp only [Bool.or_eq_true, decide_eq_true_eq] at hc
        rcases hc with hc | hc
        · exact .inl (by omega)
        · exact .inr (eq_of_beq hc)
      have ep : bytesOf (D.l [[D.i (IntKind.u8.wrap (IntKind.u64.wrap (48 + (m : Int).tmod 10)))]]) 0 1 = mkB [UInt8.ofNat (48 + m % 10)] := by rw [ew]; rfl
      refine ⟨by decide, Nat.le_refl _, fun i hi => ?_, ?_, (m / 10, UInt8.ofNat (48 + m % 10) :: l), dgI_step hI hc, ?_, eq, ?_, rfl⟩
      · obtain rfl : i = 0 := by omega
        show 0 ≤ IntKind.u8.wrap (IntKind.u64.wrap (48 + (m : Int).tmod 10)) ∧ IntKind.u8.wrap (IntKind.u64.wrap (48 + (m : Int).tmod 10)) < 256
        rw [ew]; omega
      · show ((bytesOf (D.l [[D.i (IntKind.u8.wrap (IntKind.u64.wrap (48 + (m : Int).tmod 10)))]]) 0 1).size : Int) + ((mkB l).size : Int) ≤ IntKind.i64.max
        rw [ep]
        show (1 : Int) + ((l.length : Nat) : Int) ≤ 9223372036854775807
        omega
      · show 2 * (m / 10) + (if (UInt8.ofNat (48 + m % 10) :: l).isEmpty = true then 1 else 0) < 2 * m + (if l.isEmpty = true then 1 else 0)
        rcases hc with hc | hc
        · have : (UInt8.ofNat (48 + m % 10) :: l).isEmpty = false := rfl
          rw [this]; simp; omega
        · rw [hc]
          have : (UInt8.ofNat (48 + m % 10) :: ([] : List UInt8)).isEmpty = false := rfl
          rw [this]; simp; omega
      · show Value.string (bytesOf (D.l [[D.i (IntKind.u8.wrap (IntKind.u64.wrap (48 + (m : Int).tmod 10)))]]) 0 1 ++ mkB l) = Value.string (mkB (UInt8.ofNat (48 + m % 10) :: l))
        rw [ep, mkB_app]; rfl
    · have hc : m = 0 ∧ l ≠ [] := by
        simp only [Bool.or_eq_false_iff, decide_eq_false_iff_not] at hc
        refine ⟨by omega, fun e => ?_⟩
        have := hc.2
        rw [e] at this
        exact absurd this (by decide)
      rcases hI.2.2 hc.1 with ⟨e, _⟩ | ⟨_, e⟩
      · exact absurd e hc.2
      · show Value.string (mkB l) = Value.string (dgS n)
        unfold dgS
        rw [e]
  · trivial
end Go.Proofs.YtomodncooiddaaaDoor.Sx.Z
