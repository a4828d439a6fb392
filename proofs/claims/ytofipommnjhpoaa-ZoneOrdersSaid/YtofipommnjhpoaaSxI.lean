/-
  One operation of a region: its guard, what it comes to, and what is known behind it.
-/
import Derived.Test.YtofipommnjhpoaaSxH
namespace Go.Proofs.Ytofipommnjhpoaa.Sx
open Go.RowKit

/-! ### What is known goes along -/
theorem look_append {α : Type} (a b : List (Nat × α)) (k : Nat) : look (a ++ b) k = match look a k with | some x => some x | none => look b k := by
  induction a with
  | nil => rfl
  | cons p r ih =>
    obtain ⟨j, x⟩ := p
    simp only [List.cons_append, look]
    split
    · rfl
    · exact ih
def stOK (hp : Heap) : Heap → Bool
  | [] => true
  | (id, x) :: r => x.isOwn && (match look hp id with | some y => y.isOwn | none => false) && stOK hp r
theorem stOK_spec {hp : Heap} : ∀ {st : Heap}, stOK hp st = true → ∀ id x, look st id = some x → x.isOwn = true ∧ ∃ y, look hp id = some y ∧ y.isOwn = true
  | [], _, id, x, h => by simp [look] at h
  | (j, y) :: r, hs, id, x, h => by
    simp only [stOK, Bool.and_eq_true] at hs
    simp only [look] at h
    split at h
    · rename_i hj
      obtain rfl : j = id := by simpa using hj
      obtain rfl := by simpa using h
      refine ⟨hs.1.1, ?_⟩
      have := hs.1.2
      split at this
      · rename_i z hz; exact ⟨z, hz, this⟩
      · cases this
    · exact stOK_spec hs.2 id x h
theorem erel_some {B : Nat} {ρ : Map} {w : World} {id : Nat} {e : Ent} (h : ERel B ρ w id e) (ho : e.isOwn = true) : (ρ id).isSome = true ∧ B ≤ ρ.blk id ∧ ρ.blk id < w.heap.size := by
  have lt : ∀ {x : Obj}, w.heap[ρ.blk id]? = some x → ρ.blk id < w.heap.size := fun h => by
    rcases Nat.lt_or_ge (ρ.blk id) w.heap.size with h' | h'
    · exact h'
    · rw [Array.getElem?_eq_none h'] at h; cases h
  cases e with
  | own T l => obtain ⟨h0, _, h1, vs, _, hh⟩ := h; exact ⟨h0, h1, lt hh⟩
  | row T l => obtain ⟨h0, _, h1, vs, r, _, hh⟩ := h; exact ⟨h0, h1, lt hh⟩
  | ro l => cases ho
  | gone => cases ho
/-- An entry whose block is as it was. -/
theorem erel_keep {B : Nat} {ρ ρ' : Map} {w w' : World} {id : Nat} {e : Ent} (hx : Ext ρ ρ') (h : ERel B ρ w id e) (hk : (ρ id).isSome = true → w'.heap[ρ.blk id]? = w.heap[ρ.blk id]?) : ERel B ρ' w' id e := by
  cases e with
  | own T l =>
    obtain ⟨h0, h1, h2, vs, h3, h4⟩ := h
    obtain ⟨g0, g1, g2, _⟩ := hx.at h0
    exact ⟨g0, by rw [g2]; exact h1, by rw [g1]; exact h2, vs, csrel_ext hx h3, by rw [g1, hk h0]; exact h4⟩
  | row T l =>
    obtain ⟨h0, h1, h2, vs, r, h3, h4⟩ := h
    obtain ⟨g0, g1, g2, _⟩ := hx.at h0
    exact ⟨g0, by rw [g2]; exact h1, by rw [g1]; exact h2, vs, r, csrel_ext hx h3, by rw [g1, hk h0]; exact h4⟩
  | ro l =>
    obtain ⟨h0, vs, h1, h3, h4⟩ := h
    obtain ⟨g0, g1, g2, g3⟩ := hx.at h0
    refine ⟨g0, vs, by rw [g1]; exact h1, csrel_ext hx h3, fun o v ho => ?_⟩
    rw [g3, World.cell?_of_block (w := w) (hk h0)]
    exact h4 o v ho
  | gone => trivial
/-- Behind an operation: memory. -/
theorem wh_step {w0 w w' : World} {ρ ρ' : Map} {hp : Heap} {e : Eff} (h : WH w0 ρ hp w) (hf : Fr w0.heap.size ρ ρ' w w' e) (hst' : ∀ id x, look e.st id = some x → x.isOwn = true ∧ ∃ y, look hp id = some y ∧ y.isOwn = true) (hnw : ∀ id x, look e.nw id = some x → ρ id = none) : WH w0 ρ' (e.st ++ (e.nw ++ hp)) w' := by
  have hB : w0.heap.size ≤ w.heap.size := h.below.size
  have stB : ∀ id x, look e.st id = some x → w0.heap.size ≤ ρ.blk id ∧ (ρ id).isSome = true := fun id x hx => by
    obtain ⟨_, y, hy, ho⟩ := hst' id x hx
    obtain ⟨h0, h1, _⟩ := erel_some (h.ents id y hy) ho
    exact ⟨h1, h0⟩
  have ownOld : ∀ id y, look hp id = some y → y.isOwn = true → (ρ id).isSome = true ∧ w0.heap.size ≤ ρ.blk id ∧ ρ.blk id < w.heap.size := fun id y hy ho => erel_some (h.ents id y hy) ho
  -- what an own id of the new heap is
  have cases3 : ∀ id x, look (e.st ++ (e.nw ++ hp)) id = some x → (look e.st id = some x) ∨ (look e.st id = none ∧ look e.nw id = some x) ∨ (look e.st id = none ∧ look e.nw id = none ∧ look hp id = some x) := fun id x hx => by
    rw [look_append] at hx
    cases h1 : look e.st id with
    | some y => rw [h1] at hx; exact .inl hx
    | none =>
      rw [h1, look_append] at hx
      cases h2 : look e.nw id with
      | some y => rw [h2] at hx; exact .inr (.inl ⟨rfl, hx⟩)
      | none => rw [h2] at hx; exact .inr (.inr ⟨rfl, rfl, hx⟩)
  -- the block of an own entry behind the operation
  have blkOf : ∀ id x, look (e.st ++ (e.nw ++ hp)) id = some x → x.isOwn = true → (look e.nw id = none ∧ (∃ y, look hp id = some y ∧ y.isOwn = true) ∧ ρ'.blk id = ρ.blk id ∧ ρ.blk id < w.heap.size) ∨ (look e.nw id = some x ∧ look e.st id = none ∧ w.heap.size ≤ ρ'.blk id) := fun id x hx ho => by
    rcases cases3 id x hx with h1 | ⟨h1, h2⟩ | ⟨h1, h2, h3⟩
    · obtain ⟨_, y, hy, hyo⟩ := hst' id x h1
      obtain ⟨g0, g1, g2⟩ := ownOld id y hy hyo
      refine .inl ⟨?_, ⟨y, hy, hyo⟩, (hf.ext.at g0).2.1, g2⟩
      cases hn : look e.nw id with
      | none => rfl
      | some z => rw [hnw id z hn] at g0; cases g0
    · exact .inr ⟨h2, h1, (hf.nw id x h2).2.1⟩
    · obtain ⟨g0, g1, g2⟩ := ownOld id x h3 ho
      exact .inl ⟨h2, ⟨x, h3, ho⟩, (hf.ext.at g0).2.1, g2⟩
  refine ⟨?_, ?_, ?_⟩
  · refine h.below.trans ⟨hf.below.os, hf.below.tape, hf.below.output, hf.below.size, fun k hk => hf.keep k (by omega) fun id x hx => ?_⟩
    have := (stB id x hx).1
    omega
  · intro id x hx
    rcases cases3 id x hx with h1 | ⟨_, h2⟩ | ⟨h1, h2, h3⟩
    · exact hf.st id x h1
    · exact (hf.nw id x h2).1
    · have old := h.ents id x h3
      have ownKeep : x.isOwn = true → ERel w0.heap.size ρ' w' id x := fun ho => by
        obtain ⟨_, _, g2⟩ := erel_some old ho
        refine erel_keep hf.ext old fun h0 => hf.keep _ g2 fun j y hj => ?_
        obtain ⟨_, z, hz, hzo⟩ := hst' j y hj
        refine h.apart j id z _ hz h3 hzo ho ?_
        rintro rfl; rw [h1] at hj; cases hj
      cases x with
      | gone => trivial
      | ro l =>
        obtain ⟨g0, vs, g1, g2, g3⟩ := old
        rcases g1 with rfl | hlt
        · obtain ⟨k0, _⟩ := hf.ext.at g0
          exact ⟨k0, [], .inl rfl, csrel_ext hf.ext g2, fun o v ho => by simp at ho⟩
        · exact erel_keep hf.ext (show ERel w0.heap.size ρ w id (.ro l) from ⟨g0, vs, .inr hlt, g2, g3⟩) fun h0 => hf.keep _ (by omega) fun j y hj => by have := (stB j y hj).1; omega
      | own T l => exact ownKeep rfl
      | row T l => exact ownKeep rfl
  · intro i j x y hi hj hxo hyo hne
    rcases blkOf i x hi hxo with ⟨_, ⟨a, ha, hao⟩, hbi, hli⟩ | ⟨hni, hsi, hbi⟩
    · rcases blkOf j y hj hyo with ⟨_, ⟨b, hb, hbo⟩, hbj, hlj⟩ | ⟨hnj, _, hbj⟩
      · rw [hbi, hbj]; exact h.apart i j a b ha hb hao hbo hne
      · omega
    · rcases blkOf j y hj hyo with ⟨_, _, hbj, hlj⟩ | ⟨hnj, _, hbj⟩
      · omega
      · exact hf.apart i j x y hni hnj hne

/-! ### Slots -/
def noG (d : Nat) : Slots → Bool
  | [] => true
  | (_, .cond g _) :: r => g.all (fun p => !Nat.beq p.1 d) && noG d r
  | _ :: r => noG d r
theorem gd_put {a : Act} {d : Nat} {v : Value} {g : List (Nat × Bool)} (h : g.all (fun p => !Nat.beq p.1 d) = true) : Gd (a.put (some d) v).tmps g ↔ Gd a.tmps g := by
  unfold Gd
  rw [List.all_eq_true] at h
  have key : ∀ p ∈ g, (a.put (some d) v).tmps.getD p.1 undef = a.tmps.getD p.1 undef := fun p hp => by
    have := h p hp
    have hne : d ≠ p.1 := by
      intro e; subst e; simp at this
    simp [Act.put, Array.getElem?_setIfInBounds_ne hne]
  constructor
  · intro hg p hp; rw [← key p hp]; exact hg p hp
  · intro hg p hp; rw [key p hp]; exact hg p hp
theorem noG_spec {d : Nat} : ∀ {tm : Slots}, noG d tm = true → ∀ t g x, look tm t = some (.cond g x) → g.all (fun p => !Nat.beq p.1 d) = true
  | [], _, t, g, x, h => by simp [look] at h
  | (j, sv) :: r, hn, t, g, x, h => by
    simp only [look] at h
    split at h
    · obtain rfl := by simpa using h
      simp only [noG, Bool.and_eq_true] at hn
      exact hn.1
    · refine noG_spec ?_ t g x h
      cases sv <;> first | exact hn | (simp only [noG, Bool.and_eq_true] at hn; exact hn.2)
def svG (d : Nat) : SV → Bool | .cond g _ => g.all (fun p => !Nat.beq p.1 d) | _ => true
theorem vrel_put {ρ : Map} {a : Act} {d : Nat} {v : Value} {x : SV} {u : Value} (hx : svG d x = true) (h : VRel ρ a.tmps x u) : VRel ρ (a.put (some d) v).tmps x u := by
  cases x with
  | cond g y =>
    have := gd_put (a := a) (v := v) hx
    exact ⟨fun hg => h.1 (this.1 hg), fun hg => h.2 (fun hg' => hg (this.2 hg'))⟩
  | _ => exact h
/-- Behind an operation: the slots. -/
def putS (d : Option Nat) (sv : SV) (tm : Slots) : Slots := match d with | some d => (d, sv) :: tm | none => tm
def dOK (nt : Nat) (tm : Slots) (d : Option Nat) (sv : SV) : Bool := match d with | some d => Nat.blt d nt && noG d tm && svG d sv | none => true
theorem ah_step2 {ρ ρ' : Map} {nt : Nat} {tm : Slots} {a : Act} {d : Nat} {sv : SV} {v : Value} (h : AH ρ nt tm a) (hx : Ext ρ ρ') (hlt : d < nt) (hn : ∀ t g x, look tm t = some (.cond g x) → g.all (fun p => !Nat.beq p.1 d) = true) (hs : svG d sv = true) (hv : VRel ρ' a.tmps sv v) : AH ρ' nt ((d, sv) :: tm) (a.put (some d) v) := by
  have hlt' : d < a.tmps.size := by rw [h.size]; exact hlt
  refine ⟨by simp [Act.put, h.size], h.defers, fun t x ht => ?_⟩
  simp only [look] at ht
  split at ht
  · rename_i hj
    obtain rfl : d = t := by simpa using hj
    obtain rfl := by simpa using ht
    have : (a.put (some d) v).tmps.getD d undef = v := by simp [Act.put, hlt']
    rw [this]
    exact vrel_put hs hv
  · rename_i hj
    have hne : d ≠ t := by intro e; subst e; simp at hj
    have : (a.put (some d) v).tmps.getD t undef = a.tmps.getD t undef := by simp [Act.put, Array.getElem?_setIfInBounds_ne hne]
    rw [this]
    refine vrel_put ?_ (vrel_ext hx (h.slots t x ht))
    cases x with
    | cond g y => exact hn t g y ht
    | _ => rfl
theorem ah_step {ρ ρ' : Map} {nt : Nat} {tm : Slots} {a : Act} {d : Option Nat} {sv : SV} {v : Value} (h : AH ρ nt tm a) (hx : Ext ρ ρ') (hd : dOK nt tm d sv = true) (hv : VRel ρ' a.tmps sv v) : AH ρ' nt (putS d sv tm) (a.put d v) := by
  cases d with
  | none => exact ⟨h.size, h.defers, fun t x ht => vrel_ext hx (h.slots t x ht)⟩
  | some d =>
    simp only [dOK, Bool.and_eq_true] at hd
    obtain ⟨⟨hlt, hn⟩, hs⟩ := hd
    exact ah_step2 h hx (by simpa [Nat.blt_eq] using hlt) (noG_spec hn) hs hv
end Go.Proofs.Ytofipommnjhpoaa.Sx
