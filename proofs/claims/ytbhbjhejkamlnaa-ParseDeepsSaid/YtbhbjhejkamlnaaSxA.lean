/-
  Symbolic states: what is known of a frame's slots and of memory, and what that says of them.
-/
import Derived.Test.YtbhbjhejkamlnaaSxY
import Derived.Below
namespace Go.Proofs.Ytbhbjhejkamlnaa.Sx
open Go.RowKit

/-- Numbers: written out, or a letter. -/
inductive SI | lit (n : Int) | sym (n : Int)
def SI.v : SI → Int | .lit n => n | .sym n => n
inductive SB | lit (b : Bool) | sym (b : Bool)
def SB.v : SB → Bool | .lit b => b | .sym b => b
inductive SN | lit (n : Nat) | sym (n : Nat)
def SN.v : SN → Nat | .lit n => n | .sym n => n
theorem SI.lv (n : Int) : (SI.lit n).v = n := rfl
theorem SI.sv (n : Int) : (SI.sym n).v = n := rfl
theorem SN.lv (n : Nat) : (SN.lit n).v = n := rfl
theorem SN.sv (n : Nat) : (SN.sym n).v = n := rfl
/-- Offsets: written out, or so much and a letter. -/
inductive SO | lit (n : Nat) | sym (l s : Nat)
def SO.v : SO → Nat | .lit n => n | .sym l s => l + s

theorem SO.lv (n : Nat) : (SO.lit n).v = n := rfl
/-- Data: numbers, truths, texts, rows of rows of cells. -/
inductive D | i (n : Int) | b (b : Bool) | s (s : ByteArray) | l (rows : List (List D))
def D.toI : D → Int | .i x => x | _ => 0
def D.toB : D → Bool | .b x => x | _ => false
def D.toS : D → ByteArray | .s x => x | _ => ByteArray.empty
def D.rows : D → List (List D) | .l r => r | _ => []
def D.len (d : D) : Nat := d.rows.length
def D.el (d : D) (i j : Nat) : D := (d.rows.getD i []).getD j (.i 0)
def D.sub (d : D) (l h : Nat) : D := .l ((d.rows.take h).drop l)
theorem D.sub_len (d : D) {l h : Nat} (hh : h ≤ d.len) : (d.sub l h).len = h - l := by
  have h1 : h ≤ d.rows.length := hh
  show ((d.rows.take h).drop l).length = h - l
  rw [List.length_drop, List.length_take]; omega
theorem D.sub_el (d : D) {l h i : Nat} (hi : i < h - l) (j : Nat) : (d.sub l h).el i j = d.el (l + i) j := by
  have e1 : (d.sub l h).rows = (d.rows.take h).drop l := rfl
  unfold D.el
  rw [e1, List.getD_eq_getElem?_getD (l := List.drop l _), List.getElem?_drop, List.getElem?_take_of_lt (by omega), ← List.getD_eq_getElem?_getD]
/-- What one cell holds. rows: a slice of cells that nobody changes any more; fp: a place in such a slice; osl: a slice of a row of one's own; optr: a place in it; fn: a function that tells of an element, as far as it is ok, whether it is such a one. -/
inductive SC
  | int (k : IntKind) (n : SI)
  | bool (b : SB)
  | ptr (id : Nat) (o : SO)
  | slice (id : Nat) (o : SO) (len : SN)
  | nils
  | raw (v : Value)
  | rows (e : TypeId) (d : D)
  | fp (e : TypeId) (d : D) (i : Nat) (j : Nat)
  | osl (e : TypeId) (id : Nat) (lo n : SN)
  | optr (e : TypeId) (id : Nat) (i : Nat) (j : Nat)
  | fn (ag : Bool) (e : TypeId) (p : List D → Bool) (ok : List D → Prop)
  | bm (g : FuncId) (id : Nat)

/-- Where a block lies: its number and an offset; how many elements it has room for; what lies in blocks that nobody changes any more, and what lay there when the call began; which elder blocks may be changed. -/
structure Map where
  m : Nat → Option (Nat × Nat)
  cap : Nat → Nat
  fz : Nat → Option (Array Value)
  f0 : Nat → Option (Array Value)
  mu : Nat → Bool
instance : CoeFun Map (fun _ => Nat → Option (Nat × Nat)) := ⟨Map.m⟩
def Map.blk (ρ : Map) (id : Nat) : Nat := ((ρ id).getD (0, 0)).1
def Map.off (ρ : Map) (id : Nat) : Nat := ((ρ id).getD (0, 0)).2
def Map.at (ρ : Map) (id o : Nat) : Addr := ⟨ρ.blk id, ρ.off id + o, none⟩

abbrev Fz := Nat → Option (Array Value)
def Fz.cell (fz : Fz) (b o : Nat) : Option Value := match fz b with | some cs => cs[o]? | none => none
/-- A cell of a kind has a datum. -/
inductive TRel (fz : Fz) : K → D → Value → Prop
  | int (k : IntKind) (d : D) : TRel fz (.int k) d (.int k d.toI)
  | bool (d : D) : TRel fz .bool d (.bool d.toB)
  | str (d : D) : TRel fz .str d (.string d.toS)
  | nil (e : TypeId) (d : D) : d.len = 0 → TRel fz (.slice e) d (.slice none 0 0)
  | empty (e : TypeId) (d : D) (a : Addr) (c : Nat) : d.len = 0 → TRel fz (.slice e) d (.slice (some a) 0 c)
  | slice (e : TypeId) (d : D) (b o c : Nat) (u : Nat → Nat → Value) : d.len ≤ c → (∀ i j, i < d.len → j < (eks e).length → fz.cell b (o + i * (eks e).length + j) = some (u i j)) →
      (∀ i j k, i < d.len → (eks e)[j]? = some k → TRel fz k (d.el i j) (u i j)) → TRel fz (.slice e) d (.slice (some ⟨b, o, none⟩) d.len c)
def FzLe (a b : Fz) : Prop := ∀ i cs, a i = some cs → b i = some cs
/-- What lies in tables that nobody changes. -/
def TabF (F : Fz) : Prop := ∀ g cs, Tabs g cs → F g = some cs
theorem TabF.mono {a b : Fz} (h : FzLe a b) (ha : TabF a) : TabF b := fun g cs hg => h g cs (ha g cs hg)
theorem FzLe.cell {a b : Fz} (h : FzLe a b) {i o : Nat} {v : Value} (hv : Fz.cell a i o = some v) : Fz.cell b i o = some v := by
  unfold Fz.cell at hv ⊢
  split at hv
  · rename_i cs hc; rw [h i cs hc]; exact hv
  · cases hv
theorem TRel.mono {a b : Fz} (h : FzLe a b) {k : K} {d : D} {v : Value} (hr : TRel a k d v) : TRel b k d v := by
  induction hr with
  | int k d => exact .int k d
  | bool d => exact .bool d
  | str d => exact .str d
  | nil e d h0 => exact .nil e d h0
  | empty e d a c h0 => exact .empty e d a c h0
  | slice e d b o c u hc hu _ ih => exact .slice e d b o c u hc (fun i j hi hj => h.cell (hu i j hi hj)) ih

/-- A value of an element's type: of its data. -/
def ElVal (fz : Fz) (ag : Bool) (e : TypeId) (d : List D) (x : Value) : Prop := match ag with
  | false => ∃ k, eks e = [k] ∧ TRel fz k (d.getD 0 (.i 0)) x
  | true => ∃ cs : List Value, x = .agg cs.toArray ∧ cs.length = (eks e).length ∧ ∀ (j : Nat) k, (eks e)[j]? = some k → ∃ u, cs[j]? = some u ∧ TRel fz k (d.getD j (.i 0)) u
/-- A function value that tells of elements what p tells. -/
def FnQ (fz : Fz) (ag : Bool) (e : TypeId) (p : List D → Bool) (ok : List D → Prop) (v : Value) : Prop :=
  ∃ g cap, v = .func (.func g) #[] cap ∧ (∀ (args : Array Value) (w : World), (callFunc g args).run PG w = .ok (.enter g args) w) ∧
    ∀ (w : World) (fz' : Fz) (d : List D) (x : Value), FzLe fz fz' → (∀ b cs, fz' b = some cs → ∃ T z, w.heap[b]? = some (.cells cs T z)) → ElVal fz' ag e d x → ok d →
      Calls PG g (#[x] ++ cap) w fun en w' => en = .returned (.bool (p d)) ∧ Below w.heap.size w w'
def CRel (ρ : Map) : SC → Value → Prop
  | .int k n, v => v = .int k n.v
  | .bool b, v => v = .bool b.v
  | .ptr id o, v => (ρ id).isSome = true ∧ v = .pointer (some (ρ.at id o.v))
  | .slice id o len, v => ∃ A c, v = .slice A len.v c ∧ len.v ≤ c ∧ (((ρ id).isSome = true ∧ A = some (ρ.at id o.v)) ∨ (len.v = 0 ∧ c = 0))
  | .nils, v => v = .slice none 0 0
  | .raw x, v => v = x
  | .rows e d, v => TRel ρ.fz (.slice e) d v
  | .fp e d i j, v => ∃ b o, v = .pointer (some ⟨b, o + j, none⟩) ∧ ∀ j' k, (eks e)[j']? = some k → ∃ u, Fz.cell ρ.fz b (o + j') = some u ∧ TRel ρ.fz k (d.el i j') u
  | .osl e id lo n, v => ∃ A c, v = .slice A n.v c ∧ n.v ≤ c ∧ ((c = 0 ∧ ∀ a, A = some a → a.spot = none) ∨ (A = some ⟨ρ.blk id, lo.v * (eks e).length, none⟩ ∧ lo.v + c ≤ ρ.cap id ∧ (ρ id).isSome = true))
  | .optr e id i j, v => (ρ id).isSome = true ∧ v = .pointer (some ⟨ρ.blk id, i * (eks e).length + j, none⟩)
  | .fn ag e p ok, v => ∃ z, FzLe z ρ.fz ∧ FnQ z ag e p ok v
  | .bm g id, v => (ρ id).isSome = true ∧ v = .func (.func g) #[.pointer (some (ρ.at id 0))] #[]

/-- A part of a row of cells: one cell, or so many numbers. -/
inductive Seg
  | c (x : SC)
  | ints (k : IntKind) (n : SN) (f : Nat → Int)
def Seg.cells : Seg → List SC
  | .c x => [x]
  | .ints k n f => (List.range n.v).map fun o => .int k (.sym (f o))
def cellsOf (l : List Seg) : List SC := l.flatMap Seg.cells

def CsRel (ρ : Map) (l : List SC) (vs : List Value) : Prop := l.length = vs.length ∧ ∀ (i : Nat) x v, l[i]? = some x → vs[i]? = some v → CRel ρ x v

/-- A value: a cell's, or a struct's or an array's. -/
inductive V1
  | sc (c : SC)
  | agg (l : List Seg)
def V1Rel (ρ : Map) : V1 → Value → Prop
  | .sc c, v => CRel ρ c v
  | .agg l, v => ∃ cs : Array Value, v = .agg cs ∧ CsRel ρ (cellsOf l) cs.toList
inductive SV
  | one (x : V1)
  | tup (l : List V1)
  | cond (g : List (Nat × Bool)) (x : V1)
  | junk
def SV.isCond : SV → Bool | .cond .. => true | _ => false
/-- The guards hold: these slots hold these Bools. -/
def Gd (tmps : Array Value) (g : List (Nat × Bool)) : Prop := ∀ p ∈ g, tmps.getD p.1 undef = .bool p.2
def TupRel (ρ : Map) : List V1 → List Value → Prop
  | [], [] => True
  | x :: l, v :: vs => V1Rel ρ x v ∧ TupRel ρ l vs
  | _, _ => False
def VRel (ρ : Map) (tmps : Array Value) : SV → Value → Prop
  | .one x, v => V1Rel ρ x v
  | .tup l, v => ∃ vs : Array Value, v = .tuple vs ∧ TupRel ρ l vs.toList
  | .cond g x, v => (Gd tmps g → V1Rel ρ x v) ∧ (¬ Gd tmps g → v = undef)
  | .junk, _ => True

/-- What is known of memory at a place. own: a block of the call's own, known whole; orow: a row of elements of the call's own (that is empty, it may be none); ro: cells that were there before; gone: nothing. -/
inductive Ent
  | own (T : TypeId) (l : List Seg)
  | row (T : TypeId) (l : List Seg)
  | orow (e : TypeId) (d : D)
  | ro (l : List Seg)
  | gone
def Ent.isOwn : Ent → Bool | .own .. | .row .. | .orow .. => true | _ => false
/-- Blocks that the call may change. -/
def Mine (B : Nat) (ρ : Map) (b : Nat) : Prop := (B ≤ b ∨ ρ.mu b = true) ∧ ρ.fz b = none
/-- A row of elements at a block. -/
def RowAt (ρ : Map) (w : World) (b cap : Nat) (e : TypeId) (d : D) : Prop := ∃ cs : Array Value, w.heap[b]? = some (.cells cs e (0, 0)) ∧ cs.size = cap * (eks e).length ∧ d.len ≤ cap ∧
  ∀ i j k, i < d.len → (eks e)[j]? = some k → ∃ u, cs[i * (eks e).length + j]? = some u ∧ TRel ρ.fz k (d.el i j) u
def ERel (B : Nat) (ρ : Map) (w : World) (id : Nat) : Ent → Prop
  | .own T l => (ρ id).isSome = true ∧ ρ.off id = 0 ∧ Mine B ρ (ρ.blk id) ∧ ∃ vs : List Value, CsRel ρ (cellsOf l) vs ∧ w.heap[ρ.blk id]? = some (.cells vs.toArray T (0, 0))
  | .row T l => (ρ id).isSome = true ∧ ρ.off id = 0 ∧ Mine B ρ (ρ.blk id) ∧ ∃ vs rest : List Value, CsRel ρ (cellsOf l) vs ∧ w.heap[ρ.blk id]? = some (.cells (vs ++ rest).toArray T (0, 0))
  | .orow e d => (ρ id = none ∧ d.len = 0) ∨ ((ρ id).isSome = true ∧ ρ.off id = 0 ∧ Mine B ρ (ρ.blk id) ∧ RowAt ρ w (ρ.blk id) (ρ.cap id) e d)
  | .ro l => (ρ id).isSome = true ∧ ∃ vs : List Value, CsRel ρ (cellsOf l) vs ∧ ∀ (o : Nat) v, vs[o]? = some v → Fz.cell ρ.fz (ρ.blk id) (ρ.off id + o) = some v
  | .gone => True

abbrev Heap := List (Nat × Ent)
def look {α : Type} : List (Nat × α) → Nat → Option α
  | [], _ => none
  | (j, x) :: r, k => if j == k then some x else look r k

/-- Nobody has changed what isn't to be changed. -/
structure BelowM (B : Nat) (mu : Nat → Bool) (w w' : World) : Prop where
  os : w'.os = w.os
  tape : w'.tape = w.tape
  output : w'.output = w.output
  size : w.heap.size ≤ w'.heap.size
  block : ∀ k, k < B → mu k = false → w'.heap[k]? = w.heap[k]?
theorem BelowM.refl (B : Nat) (mu : Nat → Bool) (w : World) : BelowM B mu w w := ⟨rfl, rfl, rfl, Nat.le_refl _, fun _ _ _ => rfl⟩
theorem BelowM.trans {B : Nat} {mu : Nat → Bool} {a b c : World} (h : BelowM B mu a b) (k : BelowM B mu b c) : BelowM B mu a c :=
  ⟨k.os.trans h.os, k.tape.trans h.tape, k.output.trans h.output, Nat.le_trans h.size k.size, fun i hi hm => (k.block i hi hm).trans (h.block i hi hm)⟩
theorem BelowM.drew {B : Nat} {mu : Nat → Bool} {a b : World} (h : BelowM B mu a b) : BelowM B mu a b.drew := ⟨h.os, h.tape, h.output, h.size, h.block⟩
/-- What lies there lies there. -/
def Frozen (ρ : Map) (w : World) : Prop := ∀ b cs, ρ.fz b = some cs → ∃ T z, w.heap[b]? = some (.cells cs T z)
theorem Frozen.cell {ρ : Map} {w : World} (h : Frozen ρ w) {b o : Nat} {v : Value} (hv : Fz.cell ρ.fz b o = some v) : w.cell? ⟨b, o, none⟩ = some v := by
  unfold Fz.cell at hv
  split at hv
  · rename_i cs hc
    obtain ⟨T, z, hh⟩ := h b cs hc
    simp only [World.cell?, hh]
    simpa using hv
  · cases hv
/-- The world when the call began, what nobody changes in it, and what the call may change. -/
structure W0 where
  w : World
  f0 : Fz
  mu : Nat → Bool
  anc : Option (Nat × Nat) := none
abbrev W0.heap (x : W0) : Array Obj := x.w.heap
/-- Memory is as is known of it; w0: the world when the call began. -/
structure WH (w0 : W0) (ρ : Map) (h : Heap) (w : World) : Prop where
  below : BelowM w0.heap.size ρ.mu w0.w w
  ents : ∀ id e, look h id = some e → ERel w0.heap.size ρ w id e
  apart : ∀ i j e f, look h i = some e → look h j = some f → e.isOwn = true → f.isOwn = true → i ≠ j → (ρ i).isSome = true → (ρ j).isSome = true → ρ.blk i ≠ ρ.blk j
  froz : Frozen ρ w
  sub : FzLe ρ.f0 ρ.fz
  mu0 : ρ.mu = w0.mu
  f00 : ρ.f0 = w0.f0
  old : ∀ b cs, ρ.fz b = some cs → ρ.f0 b = some cs ∨ w0.heap.size ≤ b ∨ ρ.mu b = true
  anc : ∀ p, w0.anc = some p → ρ 0 = some p
  tab : TabF w0.f0

abbrev Slots := List (Nat × SV)
structure AH (ρ : Map) (nt : Nat) (tm : Slots) (a : Act) : Prop where
  size : a.tmps.size = nt
  defers : a.defers = []
  slots : ∀ t x, look tm t = some x → VRel ρ a.tmps x (a.tmps.getD t undef)

def All : List Prop → Prop
  | [] => True
  | p :: r => p ∧ All r
theorem all_append {a b : List Prop} : All (a ++ b) ↔ All a ∧ All b := by
  induction a with
  | nil => simp [All]
  | cons p r ih => simp [All, ih, and_assoc]

/-! ### Reading cells -/
/-- The cell at an offset. -/
def getL : List Seg → Nat → Option (SC × List Prop)
  | [], _ => none
  | .c x :: r, o => match o with | 0 => some (x, []) | o + 1 => getL r o
  | .ints k (.lit n) f :: r, o => if Nat.blt o n then some (.int k (.sym (f o)), []) else getL r (o - n)
  | .ints k (.sym n) f :: _, o => some (.int k (.sym (f o)), [o < n])
/-- .. behind so many cells, so much further. -/
def getS : List Seg → Nat → Nat → Option (SC × List Prop)
  | [], _, _ => none
  | .c _ :: r, o, s => match o with | 0 => none | o + 1 => getS r o s
  | .ints k (.lit n) f :: r, o, s => if Nat.blt o n then some (.int k (.sym (f (o + s))), [o + s < n]) else getS r (o - n) s
  | .ints k (.sym n) f :: _, o, s => some (.int k (.sym (f (o + s))), [o + s < n])
def getC (l : List Seg) : SO → Option (SC × List Prop)
  | .lit n => getL l n
  | .sym o s => getS l o s

theorem cells_ints_get {k : IntKind} {n : SN} {f : Nat → Int} {o : Nat} (h : o < n.v) : (Seg.ints k n f).cells[o]? = some (.int k (.sym (f o))) := by
  simp [Seg.cells, List.getElem?_range h]
theorem cells_ints_len {k : IntKind} {n : SN} {f : Nat → Int} : (Seg.ints k n f).cells.length = n.v := by simp [Seg.cells]
theorem cellsOf_cons (s : Seg) (l : List Seg) : cellsOf (s :: l) = s.cells ++ cellsOf l := by simp [cellsOf]

theorem getL_spec : ∀ (l : List Seg) (o : Nat) x ps, getL l o = some (x, ps) → All ps → (cellsOf l)[o]? = some x
  | [], _, _, _, h, _ => by simp [getL] at h
  | .c y :: r, o, x, ps, h, hp => by
    rw [cellsOf_cons]
    cases o with
    | zero => simp [getL] at h; simp [Seg.cells, h.1]
    | succ o => simp only [getL] at h; have := getL_spec r o x ps h hp; simpa [Seg.cells] using this
  | .ints k (.lit n) f :: r, o, x, ps, h, hp => by
    rw [cellsOf_cons]
    simp only [getL] at h
    split at h
    · rename_i hlt
      have hlt' : o < n := by simpa [Nat.blt_eq] using hlt
      obtain ⟨rfl, rfl⟩ := by simpa using h
      rw [List.getElem?_append_left (by rw [cells_ints_len]; exact hlt')]
      exact cells_ints_get hlt'
    · rename_i hlt
      have hge : n ≤ o := by
        have : ¬ o < n := by simpa [Nat.blt_eq] using hlt
        omega
      rw [List.getElem?_append_right (by rw [cells_ints_len]; exact hge), cells_ints_len]
      exact getL_spec r _ x ps h hp
  | .ints k (.sym n) f :: r, o, x, ps, h, hp => by
    rw [cellsOf_cons]
    simp only [getL, Option.some.injEq, Prod.mk.injEq] at h
    obtain ⟨rfl, rfl⟩ := h
    have hlt : o < n := hp.1
    rw [List.getElem?_append_left (by rw [cells_ints_len]; exact hlt)]
    exact cells_ints_get hlt
theorem getS_spec : ∀ (l : List Seg) (o s : Nat) x ps, getS l o s = some (x, ps) → All ps → (cellsOf l)[o + s]? = some x
  | [], _, _, _, _, h, _ => by simp [getS] at h
  | .c y :: r, o, s, x, ps, h, hp => by
    rw [cellsOf_cons]
    cases o with
    | zero => simp [getS] at h
    | succ o =>
      simp only [getS] at h
      have := getS_spec r o s x ps h hp
      have e : o + 1 + s = (o + s) + 1 := by omega
      rw [e]
      simpa [Seg.cells] using this
  | .ints k (.lit n) f :: r, o, s, x, ps, h, hp => by
    rw [cellsOf_cons]
    simp only [getS] at h
    split at h
    · simp only [Option.some.injEq, Prod.mk.injEq] at h
      obtain ⟨rfl, rfl⟩ := h
      have hlt : o + s < n := hp.1
      rw [List.getElem?_append_left (by rw [cells_ints_len]; exact hlt)]
      exact cells_ints_get hlt
    · rename_i hlt
      have hge : n ≤ o := by
        have : ¬ o < n := by simpa [Nat.blt_eq] using hlt
        omega
      have hge2 : n ≤ o + s := by omega
      rw [List.getElem?_append_right (by rw [cells_ints_len]; exact hge2), cells_ints_len]
      have e : o + s - n = (o - n) + s := by omega
      show (cellsOf r)[o + s - n]? = _
      rw [e]
      exact getS_spec r _ s x ps h hp
  | .ints k (.sym n) f :: r, o, s, x, ps, h, hp => by
    rw [cellsOf_cons]
    simp only [getS, Option.some.injEq, Prod.mk.injEq] at h
    obtain ⟨rfl, rfl⟩ := h
    have hlt : o + s < n := hp.1
    rw [List.getElem?_append_left (by rw [cells_ints_len]; exact hlt)]
    exact cells_ints_get hlt
theorem getC_spec {l : List Seg} {o : SO} {x : SC} {ps : List Prop} (h : getC l o = some (x, ps)) (hp : All ps) : (cellsOf l)[o.v]? = some x := by
  cases o with
  | lit n => exact getL_spec l n x ps h hp
  | sym n s => exact getS_spec l n s x ps h hp
end Go.Proofs.Ytbhbjhejkamlnaa.Sx
