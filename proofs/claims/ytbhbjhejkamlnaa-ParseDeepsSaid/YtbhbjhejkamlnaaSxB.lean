/-
  Writing parts of a row of cells; types' layouts.
-/
import Derived.Test.YtbhbjhejkamlnaaSxA
namespace Go.Proofs.Ytbhbjhejkamlnaa.Sx
open Go.RowKit

def SC.n : SC → SC
  | .int k n => .int k (.sym n.v)
  | .bool b => .bool (.sym b.v)
  | x => x
theorem crel_n {ρ : Map} {x : SC} {v : Value} : CRel ρ x.n v ↔ CRel ρ x v := by cases x <;> simp [SC.n, CRel, SI.v, SB.v]
def cellsN (l : List Seg) : List SC := (cellsOf l).map SC.n
theorem cellsN_len (l : List Seg) : (cellsN l).length = (cellsOf l).length := by simp [cellsN]
theorem csrel_n {ρ : Map} {l : List SC} {vs : List Value} : CsRel ρ (l.map SC.n) vs ↔ CsRel ρ l vs := by
  constructor
  · rintro ⟨h1, h2⟩
    refine ⟨by simpa using h1, fun i x v hx hv => crel_n.1 (h2 i x.n v (by simp [hx]) hv)⟩
  · rintro ⟨h1, h2⟩
    refine ⟨by simpa using h1, fun i x v hx hv => ?_⟩
    rw [List.getElem?_map] at hx
    cases hl : l[i]? with
    | none => rw [hl] at hx; cases hx
    | some y =>
      rw [hl] at hx
      obtain rfl : y.n = x := by simpa using hx
      exact crel_n.2 (h2 i y v hl hv)

/-- What a list is with another one laid over it from o on. -/
def over {α : Type} (l : List α) (o : Nat) (m : List α) : List α := l.take o ++ m ++ l.drop (o + m.length)
theorem over_len {α : Type} {l m : List α} {o : Nat} (h : o + m.length ≤ l.length) : (over l o m).length = l.length := by
  simp [over]; omega
theorem over_get {α : Type} {l m : List α} {o : Nat} (h : o + m.length ≤ l.length) (j : Nat) : (over l o m)[j]? = if o ≤ j ∧ j < o + m.length then m[j - o]? else l[j]? := by
  unfold over
  by_cases h1 : j < o
  · rw [if_neg (by omega), List.append_assoc, List.getElem?_append_left (by simp; omega), List.getElem?_take_of_lt h1]
  · by_cases h2 : j < o + m.length
    · rw [if_pos (by omega), List.append_assoc, List.getElem?_append_right (by simp; omega)]
      have e : (l.take o).length = o := by simp; omega
      rw [e, List.getElem?_append_left (by omega)]
    · rw [if_neg (by omega), List.getElem?_append_right (by simp; omega)]
      have e : (l.take o ++ m).length = o + m.length := by simp; omega
      rw [e, List.getElem?_drop]
      congr 1; omega

def putF (f : Nat → Int) (o n : Nat) (g : Nat → Int) : Nat → Int := fun j => if Nat.ble o j && Nat.blt j (o + n) then g (j - o) else f j
def scInt (k : IntKind) : SC → Option Int
  | .int k' n => if k = k' then some n.v else none
  | _ => none
/-- A part is written at an offset (so much, and so much further): within one part. -/
def wrInts (k : IntKind) (m : Nat) (f : Nat → Int) (at_ : Nat) (exact : Bool) : Seg → Option ((Nat → Int) × List Prop)
  | .c x => match scInt k x with | some n => some (putF f at_ 1 (fun _ => n), [at_ + 1 ≤ m]) | none => none
  | .ints k' (.lit n) g => if k = k' then (if exact && Nat.beq n m then some (g, []) else some (putF f at_ n g, [at_ + n ≤ m])) else none
  | .ints _ (.sym _) _ => none
def wrL : List Seg → Nat → Seg → Option (List Seg × List Prop)
  | [], _, _ => none
  | .c y :: r, o, s => match o with
    | 0 => match s with | .c x => some (.c x :: r, []) | _ => none
    | o + 1 => match wrL r o s with | some (r', ps) => some (.c y :: r', ps) | none => none
  | .ints k (.lit n) f :: r, o, s => if Nat.blt o n then (match wrInts k n f o (Nat.beq o 0) s with | some (f', ps) => some (.ints k (.lit n) f' :: r, ps) | none => none)
    else match wrL r (o - n) s with | some (r', ps) => some (.ints k (.lit n) f :: r', ps) | none => none
  | .ints k (.sym n) f :: r, o, s => match wrInts k n f o false s with | some (f', ps) => some (.ints k (.sym n) f' :: r, ps) | none => none
def wrS : List Seg → Nat → Nat → Seg → Option (List Seg × List Prop)
  | [], _, _, _ => none
  | .c y :: r, o, t, s => match o with
    | 0 => none
    | o + 1 => match wrS r o t s with | some (r', ps) => some (.c y :: r', ps) | none => none
  | .ints k (.lit n) f :: r, o, t, s => if Nat.blt o n then (match wrInts k n f (o + t) false s with | some (f', ps) => some (.ints k (.lit n) f' :: r, ps) | none => none)
    else match wrS r (o - n) t s with | some (r', ps) => some (.ints k (.lit n) f :: r', ps) | none => none
  | .ints k (.sym n) f :: r, o, t, s => match wrInts k n f (o + t) false s with | some (f', ps) => some (.ints k (.sym n) f' :: r, ps) | none => none

theorem ints_n {k : IntKind} {n : SN} {f : Nat → Int} : (Seg.ints k n f).cells.map SC.n = (List.range n.v).map fun o => .int k (.sym (f o)) := by
  simp [Seg.cells, SC.n, SI.v]
theorem cellsN_cons (s : Seg) (l : List Seg) : cellsN (s :: l) = s.cells.map SC.n ++ cellsN l := by simp [cellsN, cellsOf]

theorem wrInts_spec {k : IntKind} {m : Nat} {f f' : Nat → Int} {o : Nat} {e : Bool} {s : Seg} {ps : List Prop} (he : e = true → o = 0) (h : wrInts k m f o e s = some (f', ps)) (hp : All ps) :
    o + s.cells.length ≤ m ∧ (List.range m).map (fun j => SC.int k (.sym (f' j))) = over ((List.range m).map fun j => SC.int k (.sym (f j))) o (s.cells.map SC.n) := by
  have key : ∀ (n : Nat) (g : Nat → Int), s.cells.map SC.n = (List.range n).map (fun j => SC.int k (.sym (g j))) → o + n ≤ m →
      (List.range m).map (fun j => SC.int k (.sym (putF f o n g j))) = over ((List.range m).map fun j => SC.int k (.sym (f j))) o (s.cells.map SC.n) := by
    intro n g hs hle
    rw [hs]
    apply List.ext_getElem?
    intro j
    rw [over_get (by simpa using hle)]
    simp only [List.length_map, List.length_range, List.getElem?_map]
    by_cases hj : j < m
    · rw [List.getElem?_range hj]
      by_cases hc : o ≤ j ∧ j < o + n
      · rw [if_pos hc, List.getElem?_range (by omega)]
        simp [putF, Nat.ble_eq, Nat.blt_eq, hc.1, hc.2]
      · rw [if_neg hc]
        simp only [Option.map_some, putF]
        rw [if_neg]
        simp only [Bool.and_eq_true, Nat.ble_eq, Nat.blt_eq]
        exact hc
    · rw [List.getElem?_eq_none (by simpa using hj)]
      rw [if_neg (by omega)]
      rfl
  unfold wrInts at h
  split at h
  · rename_i x
    split at h
    · rename_i n hn
      obtain ⟨rfl, rfl⟩ := by simpa using h
      refine ⟨by simpa [Seg.cells] using hp.1, key 1 _ ?_ hp.1⟩
      cases x <;> simp [scInt] at hn
      obtain ⟨rfl, rfl⟩ := hn
      simp [Seg.cells, SC.n, List.range_succ]
    · cases h
  · rename_i k' n g
    split at h
    · rename_i hk
      subst hk
      split at h
      · rename_i hb
        obtain ⟨rfl, rfl⟩ := by simpa using h
        simp only [Bool.and_eq_true] at hb
        have ho := he hb.1
        have hnm : n = m := Nat.eq_of_beq_eq_true hb.2
        subst ho hnm
        refine ⟨by simp [Seg.cells, SN.v], ?_⟩
        rw [ints_n]
        simp [over, SN.v]
      · obtain ⟨rfl, rfl⟩ := by simpa using h
        refine ⟨by simpa [Seg.cells, SN.v] using hp.1, key n g (by rw [ints_n]; rfl) hp.1⟩
    · cases h
  · cases h

theorem over_left {α : Type} {a b m : List α} {o : Nat} (h : o + m.length ≤ a.length) : over (a ++ b) o m = over a o m ++ b := by
  unfold over
  rw [List.take_append_of_le_length (by omega), List.drop_append_of_le_length h]
  simp
theorem over_right {α : Type} {a b m : List α} {o : Nat} : over (a ++ b) (a.length + o) m = a ++ over b o m := by
  unfold over
  simp [Nat.add_assoc, List.take_append, List.drop_append, List.take_of_length_le, List.drop_of_length_le]

theorem wrL_spec : ∀ (l : List Seg) (o : Nat) (s : Seg) l' ps, wrL l o s = some (l', ps) → All ps → o + s.cells.length ≤ (cellsN l).length ∧ cellsN l' = over (cellsN l) o (s.cells.map SC.n)
  | [], _, _, _, _, h, _ => by simp [wrL] at h
  | .c y :: r, o, s, l', ps, h, hp => by
    cases o with
    | zero =>
      cases s with
      | c x =>
        simp only [wrL, Option.some.injEq, Prod.mk.injEq] at h
        obtain ⟨rfl, rfl⟩ := h
        refine ⟨by simp [cellsN, cellsOf, Seg.cells], ?_⟩
        simp [cellsN, cellsOf, Seg.cells, over]
      | ints => simp [wrL] at h
    | succ o =>
      simp only [wrL] at h
      split at h
      · rename_i r' ps' hr
        obtain ⟨rfl, rfl⟩ := by simpa using h
        obtain ⟨h1, h2⟩ := wrL_spec r o s r' ps' hr hp
        rw [cellsN_cons, cellsN_cons, h2]
        refine ⟨by rw [List.length_append]; simp only [Seg.cells, List.map_cons, List.map_nil, List.length_cons, List.length_nil] at h1 ⊢; omega, ?_⟩
        have e : o + 1 = ((Seg.c y).cells.map SC.n).length + o := by simp [Seg.cells]; omega
        rw [e, over_right]
      · cases h
  | .ints k (.lit n) f :: r, o, s, l', ps, h, hp => by
    simp only [wrL] at h
    split at h
    · rename_i hlt
      split at h
      · rename_i f' ps' hw
        obtain ⟨rfl, rfl⟩ := by simpa using h
        obtain ⟨h1, h2⟩ := wrInts_spec (by intro he; exact Nat.eq_of_beq_eq_true he) hw hp
        rw [cellsN_cons, cellsN_cons, ints_n, ints_n]
        refine ⟨by simp [SN.v]; omega, ?_⟩
        rw [over_left (by simpa [SN.v] using h1)]
        simp only [SN.v]
        rw [h2]
      · cases h
    · rename_i hlt
      have hge : n ≤ o := by
        have : ¬ o < n := by simpa [Nat.blt_eq] using hlt
        omega
      split at h
      · rename_i r' ps' hr
        obtain ⟨rfl, rfl⟩ := by simpa using h
        obtain ⟨h1, h2⟩ := wrL_spec r (o - n) s r' ps' hr hp
        rw [cellsN_cons, cellsN_cons, h2, ints_n]
        refine ⟨by simp [SN.v]; omega, ?_⟩
        have e : o = ((List.range (SN.lit n).v).map fun o => SC.int k (.sym (f o))).length + (o - n) := by simp [SN.v]; omega
        rw [e, over_right]
        congr 2
        simp [SN.v]
      · cases h
  | .ints k (.sym n) f :: r, o, s, l', ps, h, hp => by
    simp only [wrL] at h
    split at h
    · rename_i f' ps' hw
      obtain ⟨rfl, rfl⟩ := by simpa using h
      obtain ⟨h1, h2⟩ := wrInts_spec (by intro he; cases he) hw hp
      rw [cellsN_cons, cellsN_cons, ints_n, ints_n]
      refine ⟨by simp [SN.v]; omega, ?_⟩
      rw [over_left (by simpa [SN.v] using h1)]
      simp only [SN.v]
      rw [h2]
    · cases h
theorem wrS_spec : ∀ (l : List Seg) (o t : Nat) (s : Seg) l' ps, wrS l o t s = some (l', ps) → All ps → o + t + s.cells.length ≤ (cellsN l).length ∧ cellsN l' = over (cellsN l) (o + t) (s.cells.map SC.n)
  | [], _, _, _, _, _, h, _ => by simp [wrS] at h
  | .c y :: r, o, t, s, l', ps, h, hp => by
    cases o with
    | zero => simp [wrS] at h
    | succ o =>
      simp only [wrS] at h
      split at h
      · rename_i r' ps' hr
        obtain ⟨rfl, rfl⟩ := by simpa using h
        obtain ⟨h1, h2⟩ := wrS_spec r o t s r' ps' hr hp
        rw [cellsN_cons, cellsN_cons, h2]
        refine ⟨by rw [List.length_append]; simp only [Seg.cells, List.map_cons, List.map_nil, List.length_cons, List.length_nil] at h1 ⊢; omega, ?_⟩
        have e : o + 1 + t = ((Seg.c y).cells.map SC.n).length + (o + t) := by simp [Seg.cells]; omega
        rw [e, over_right]
      · cases h
  | .ints k (.lit n) f :: r, o, t, s, l', ps, h, hp => by
    simp only [wrS] at h
    split at h
    · rename_i hlt
      split at h
      · rename_i f' ps' hw
        obtain ⟨rfl, rfl⟩ := by simpa using h
        obtain ⟨h1, h2⟩ := wrInts_spec (by intro he; cases he) hw hp
        rw [cellsN_cons, cellsN_cons, ints_n, ints_n]
        refine ⟨by simp [SN.v]; omega, ?_⟩
        rw [over_left (by simpa [SN.v] using h1)]
        simp only [SN.v]
        rw [h2]
      · cases h
    · rename_i hlt
      have hge : n ≤ o := by
        have : ¬ o < n := by simpa [Nat.blt_eq] using hlt
        omega
      split at h
      · rename_i r' ps' hr
        obtain ⟨rfl, rfl⟩ := by simpa using h
        obtain ⟨h1, h2⟩ := wrS_spec r (o - n) t s r' ps' hr hp
        rw [cellsN_cons, cellsN_cons, h2, ints_n]
        refine ⟨by simp [SN.v]; omega, ?_⟩
        have e : o + t = ((List.range (SN.lit n).v).map fun o => SC.int k (.sym (f o))).length + (o - n + t) := by simp [SN.v]; omega
        rw [e, over_right]
      · cases h
  | .ints k (.sym n) f :: r, o, t, s, l', ps, h, hp => by
    simp only [wrS] at h
    split at h
    · rename_i f' ps' hw
      obtain ⟨rfl, rfl⟩ := by simpa using h
      obtain ⟨h1, h2⟩ := wrInts_spec (by intro he; cases he) hw hp
      rw [cellsN_cons, cellsN_cons, ints_n, ints_n]
      refine ⟨by simp [SN.v]; omega, ?_⟩
      rw [over_left (by simpa [SN.v] using h1)]
      simp only [SN.v]
      rw [h2]
    · cases h
def wrC (l : List Seg) : SO → Seg → Option (List Seg × List Prop)
  | .lit n, s => wrL l n s
  | .sym o t, s => wrS l o t s
theorem wrC_spec {l l' : List Seg} {o : SO} {s : Seg} {ps : List Prop} (h : wrC l o s = some (l', ps)) (hp : All ps) : o.v + s.cells.length ≤ (cellsN l).length ∧ cellsN l' = over (cellsN l) o.v (s.cells.map SC.n) := by
  cases o with
  | lit n => exact wrL_spec l n s l' ps h hp
  | sym a b => exact wrS_spec l a b s l' ps h hp
end Go.Proofs.Ytbhbjhejkamlnaa.Sx
