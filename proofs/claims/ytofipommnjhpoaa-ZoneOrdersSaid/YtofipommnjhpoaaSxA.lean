/-
  Symbolic states: what is known of a frame's slots and of memory, and what that says of them.
-/
import Derived.Orders
import Derived.Below
namespace Go.Proofs.Ytofipommnjhpoaa.Sx
open Go.RowKit

/-- Numbers: written out, or a letter. -/
inductive SI | lit (n : Int) | sym (n : Int)
def SI.v : SI → Int | .lit n => n | .sym n => n
inductive SB | lit (b : Bool) | sym (b : Bool)
def SB.v : SB → Bool | .lit b => b | .sym b => b
inductive SN | lit (n : Nat) | sym (n : Nat)
def SN.v : SN → Nat | .lit n => n | .sym n => n
theorem SI.lv (n : Int) : (SI.lit n).v = n := rfl
theorem SI.sv (n : Int) : (SI.sym n).v = n := rfl
theorem SN.lv (n : Nat) : (SN.lit n).v = n := rfl
theorem SN.sv (n : Nat) : (SN.sym n).v = n := rfl
/-- Offsets: written out, or so much and a letter. -/
inductive SO | lit (n : Nat) | sym (l s : Nat)
def SO.v : SO → Nat | .lit n => n | .sym l s => l + s

theorem SO.lv (n : Nat) : (SO.lit n).v = n := rfl
/-- What one cell holds. -/
inductive SC
  | int (k : IntKind) (n : SI)
  | bool (b : SB)
  | ptr (id : Nat) (o : SO)
  | slice (id : Nat) (o : SO) (len : SN)
  | nils
  | raw (v : Value)

/-- Where a block lies: its number and an offset. -/
abbrev Map := Nat → Option (Nat × Nat)
def Map.blk (ρ : Map) (id : Nat) : Nat := ((ρ id).getD (0, 0)).1
def Map.off (ρ : Map) (id : Nat) : Nat := ((ρ id).getD (0, 0)).2
def Map.at (ρ : Map) (id o : Nat) : Addr := ⟨ρ.blk id, ρ.off id + o, none⟩

def CRel (ρ : Map) : SC → Value → Prop
  | .int k n, v => v = .int k n.v
  | .bool b, v => v = .bool b.v
  | .ptr id o, v => (ρ id).isSome = true ∧ v = .pointer (some (ρ.at id o.v))
  | .slice id o len, v => ∃ A c, v = .slice A len.v c ∧ len.v ≤ c ∧ (((ρ id).isSome = true ∧ A = some (ρ.at id o.v)) ∨ (len.v = 0 ∧ c = 0))
  | .nils, v => v = .slice none 0 0
  | .raw x, v => v = x

/-- A part of a row of cells: one cell, or so many numbers. -/
inductive Seg
  | c (x : SC)
  | ints (k : IntKind) (n : SN) (f : Nat → Int)
def Seg.cells : Seg → List SC
  | .c x => [x]
  | .ints k n f => (List.range n.v).map fun o => .int k (.sym (f o))
def cellsOf (l : List Seg) : List SC := l.flatMap Seg.cells

def CsRel (ρ : Map) (l : List SC) (vs : List Value) : Prop := l.length = vs.length ∧ ∀ (i : Nat) x v, l[i]? = some x → vs[i]? = some v → CRel ρ x v

/-- A value: a cell's, or a struct's or an array's. -/
inductive V1
  | sc (c : SC)
  | agg (l : List Seg)
def V1Rel (ρ : Map) : V1 → Value → Prop
  | .sc c, v => CRel ρ c v
  | .agg l, v => ∃ cs : Array Value, v = .agg cs ∧ CsRel ρ (cellsOf l) cs.toList
inductive SV
  | one (x : V1)
  | tup (l : List V1)
  | cond (g : List (Nat × Bool)) (x : V1)
  | junk
def SV.isCond : SV → Bool | .cond .. => true | _ => false
/-- The guards hold: these slots hold these Bools. -/
def Gd (tmps : Array Value) (g : List (Nat × Bool)) : Prop := ∀ p ∈ g, tmps.getD p.1 undef = .bool p.2
def TupRel (ρ : Map) : List V1 → List Value → Prop
  | [], [] => True
  | x :: l, v :: vs => V1Rel ρ x v ∧ TupRel ρ l vs
  | _, _ => False
def VRel (ρ : Map) (tmps : Array Value) : SV → Value → Prop
  | .one x, v => V1Rel ρ x v
  | .tup l, v => ∃ vs : Array Value, v = .tuple vs ∧ TupRel ρ l vs.toList
  | .cond g x, v => (Gd tmps g → V1Rel ρ x v) ∧ (¬ Gd tmps g → v = undef)
  | .junk, _ => True

/-- What is known of memory at a place. own: a block of the call's own, known whole; ro: cells that were there before; gone: nothing. -/
inductive Ent
  | own (T : TypeId) (l : List Seg)
  | row (T : TypeId) (l : List Seg)
  | ro (l : List Seg)
  | gone
def Ent.isOwn : Ent → Bool | .own .. | .row .. => true | _ => false
def ERel (B : Nat) (ρ : Map) (w : World) (id : Nat) : Ent → Prop
  | .own T l => (ρ id).isSome = true ∧ ρ.off id = 0 ∧ B ≤ ρ.blk id ∧ ∃ vs : List Value, CsRel ρ (cellsOf l) vs ∧ w.heap[ρ.blk id]? = some (.cells vs.toArray T (0, 0))
  | .row T l => (ρ id).isSome = true ∧ ρ.off id = 0 ∧ B ≤ ρ.blk id ∧ ∃ vs rest : List Value, CsRel ρ (cellsOf l) vs ∧ w.heap[ρ.blk id]? = some (.cells (vs ++ rest).toArray T (0, 0))
  | .ro l => (ρ id).isSome = true ∧ ∃ vs : List Value, (vs = [] ∨ ρ.blk id < B) ∧ CsRel ρ (cellsOf l) vs ∧ ∀ (o : Nat) v, vs[o]? = some v → w.cell? (ρ.at id o) = some v
  | .gone => True

abbrev Heap := List (Nat × Ent)
def look {α : Type} : List (Nat × α) → Nat → Option α
  | [], _ => none
  | (j, x) :: r, k => if j == k then some x else look r k

/-- Memory is as is known of it; B: how many blocks there were when the call began; w0: the world then. -/
structure WH (w0 : World) (ρ : Map) (h : Heap) (w : World) : Prop where
  below : Below w0.heap.size w0 w
  ents : ∀ id e, look h id = some e → ERel w0.heap.size ρ w id e
  apart : ∀ i j e f, look h i = some e → look h j = some f → e.isOwn = true → f.isOwn = true → i ≠ j → ρ.blk i ≠ ρ.blk j

abbrev Slots := List (Nat × SV)
structure AH (ρ : Map) (nt : Nat) (tm : Slots) (a : Act) : Prop where
  size : a.tmps.size = nt
  defers : a.defers = []
  slots : ∀ t x, look tm t = some x → VRel ρ a.tmps x (a.tmps.getD t undef)

def All : List Prop → Prop
  | [] => True
  | p :: r => p ∧ All r
theorem all_append {a b : List Prop} : All (a ++ b) ↔ All a ∧ All b := by
  induction a with
  | nil => simp [All]
  | cons p r ih => simp [All, ih, and_assoc]

/-! ### Reading cells -/
/-- The cell at an offset. -/
def getL : List Seg → Nat → Option (SC × List Prop)
  | [], _ => none
  | .c x :: r, o => match o with | 0 => some (x, []) | o + 1 => getL r o
  | .ints k (.lit n) f :: r, o => if Nat.blt o n then some (.int k (.sym (f o)), []) else getL r (o - n)
  | .ints k (.sym n) f :: _, o => some (.int k (.sym (f o)), [o < n])
/-- .. behind so many cells, so much further. -/
def getS : List Seg → Nat → Nat → Option (SC × List Prop)
  | [], _, _ => none
  | .c _ :: r, o, s => match o with | 0 => none | o + 1 => getS r o s
  | .ints k (.lit n) f :: r, o, s => if Nat.blt o n then some (.int k (.sym (f (o + s))), [o + s < n]) else getS r (o - n) s
  | .ints k (.sym n) f :: _, o, s => some (.int k (.sym (f (o + s))), [o + s < n])
def getC (l : List Seg) : SO → Option (SC × List Prop)
  | .lit n => getL l n
  | .sym o s => getS l o s

theorem cells_ints_get {k : IntKind} {n : SN} {f : Nat → Int} {o : Nat} (h : o < n.v) : (Seg.ints k n f).cells[o]? = some (.int k (.sym (f o))) := by
  simp [Seg.cells, List.getElem?_range h]
theorem cells_ints_len {k : IntKind} {n : SN} {f : Nat → Int} : (Seg.ints k n f).cells.length = n.v := by simp [Seg.cells]
theorem cellsOf_cons (s : Seg) (l : List Seg) : cellsOf (s :: l) = s.cells ++ cellsOf l := by simp [cellsOf]

theorem getL_spec : ∀ (l : List Seg) (o : Nat) x ps, getL l o = some (x, ps) → All ps → (cellsOf l)[o]? = some x
  | [], _, _, _, h, _ => by simp [getL] at h
  | .c y :: r, o, x, ps, h, hp => by
    rw [cellsOf_cons]
    cases o with
    | zero => simp [getL] at h; simp [Seg.cells, h.1]
    | succ o => simp only [getL] at h; have := getL_spec r o x ps h hp; simpa [Seg.cells] using this
  | .ints k (.lit n) f :: r, o, x, ps, h, hp => by
    rw [cellsOf_cons]
    simp only [getL] at h
    split at h
    · rename_i hlt
      have hlt' : o < n := by simpa [Nat.blt_eq] using hlt
      obtain ⟨rfl, rfl⟩ := by simpa using h
      rw [List.getElem?_append_left (by rw [cells_ints_len]; exact hlt')]
      exact cells_ints_get hlt'
    · rename_i hlt
      have hge : n ≤ o := by
        have : ¬ o < n := by simpa [Nat.blt_eq] using hlt
        omega
      rw [List.getElem?_append_right (by rw [cells_ints_len]; exact hge), cells_ints_len]
      exact getL_spec r _ x ps h hp
  | .ints k (.sym n) f :: r, o, x, ps, h, hp => by
    rw [cellsOf_cons]
    simp only [getL, Option.some.injEq, Prod.mk.injEq] at h
    obtain ⟨rfl, rfl⟩ := h
    have hlt : o < n := hp.1
    rw [List.getElem?_append_left (by rw [cells_ints_len]; exact hlt)]
    exact cells_ints_get hlt
theorem getS_spec : ∀ (l : List Seg) (o s : Nat) x ps, getS l o s = some (x, ps) → All ps → (cellsOf l)[o + s]? = some x
  | [], _, _, _, _, h, _ => by simp [getS] at h
  | .c y :: r, o, s, x, ps, h, hp => by
    rw [cellsOf_cons]
    cases o with
    | zero => simp [getS] at h
    | succ o =>
      simp only [getS] at h
      have := getS_spec r o s x ps h hp
      have e : o + 1 + s = (o + s) + 1 := by omega
      rw [e]
      simpa [Seg.cells] using this
  | .ints k (.lit n) f :: r, o, s, x, ps, h, hp => by
    rw [cellsOf_cons]
    simp only [getS] at h
    split at h
    · simp only [Option.some.injEq, Prod.mk.injEq] at h
      obtain ⟨rfl, rfl⟩ := h
      have hlt : o + s < n := hp.1
      rw [List.getElem?_append_left (by rw [cells_ints_len]; exact hlt)]
      exact cells_ints_get hlt
    · rename_i hlt
      have hge : n ≤ o := by
        have : ¬ o < n := by simpa [Nat.blt_eq] using hlt
        omega
      have hge2 : n ≤ o + s := by omega
      rw [List.getElem?_append_right (by rw [cells_ints_len]; exact hge2), cells_ints_len]
      have e : o + s - n = (o - n) + s := by omega
      show (cellsOf r)[o + s - n]? = _
      rw [e]
      exact getS_spec r _ s x ps h hp
  | .ints k (.sym n) f :: r, o, s, x, ps, h, hp => by
    rw [cellsOf_cons]
    simp only [getS, Option.some.injEq, Prod.mk.injEq] at h
    obtain ⟨rfl, rfl⟩ := h
    have hlt : o + s < n := hp.1
    rw [List.getElem?_append_left (by rw [cells_ints_len]; exact hlt)]
    exact cells_ints_get hlt
theorem getC_spec {l : List Seg} {o : SO} {x : SC} {ps : List Prop} (h : getC l o = some (x, ps)) (hp : All ps) : (cellsOf l)[o.v]? = some x := by
  cases o with
  | lit n => exact getL_spec l n x ps h hp
  | sym n s => exact getS_spec l n s x ps h hp
end Go.Proofs.Ytofipommnjhpoaa.Sx
