/-
  One operation of a region: its guard, what it comes to, and what is known behind it.
-/
import Derived.Test.YtbhbjhejkamlnaaSxH
namespace Go.Proofs.Ytbhbjhejkamlnaa.Sx
open Go.RowKit

/-! ### What is known goes along -/
theorem look_append {α : Type} (a b : List (Nat × α)) (k : Nat) : look (a ++ b) k = match look a k with | some x => some x | none => look b k := by
  induction a with
  | nil => rfl
  | cons p r ih =>
    obtain ⟨j, x⟩ := p
    simp only [List.cons_append, look]
    split
    · rfl
    · exact ih
def Ent.okSt : Ent → Bool | .gone => true | x => x.isOwn
def stOK (hp nw : Heap) : Heap → Bool
  | [] => true
  | (id, x) :: r => x.okSt && (look nw id).isNone && (match look hp id with | some y => y.isOwn | none => false) && stOK hp nw r
theorem stOK_spec {hp nw : Heap} : ∀ {st : Heap}, stOK hp nw st = true → ∀ id x, look st id = some x → x.okSt = true ∧ look nw id = none ∧ ∃ y, look hp id = some y ∧ y.isOwn = true
  | [], _, id, x, h => by simp [look] at h
  | (j, y) :: r, hs, id, x, h => by
    simp only [stOK, Bool.and_eq_true] at hs
    simp only [look] at h
    split at h
    · rename_i hj
      obtain rfl : j = id := by simpa using hj
      obtain rfl := by simpa using h
      refine ⟨hs.1.1.1, by simpa using hs.1.1.2, ?_⟩
      have := hs.1.2
      split at this
      · rename_i z hz; exact ⟨z, hz, this⟩
      · cases this
    · exact stOK_spec hs.2 id x h
theorem heap_lt {w : World} {b : Nat} {x : Obj} (h : w.heap[b]? = some x) : b < w.heap.size := by
  rcases Nat.lt_or_ge b w.heap.size with h' | h'
  · exact h'
  · rw [Array.getElem?_eq_none h'] at h; cases h
theorem erel_some {B : Nat} {ρ : Map} {w : World} {id : Nat} {e : Ent} (h : ERel B ρ w id e) (ho : e.isOwn = true) (hi : (ρ id).isSome = true) : Mine B ρ (ρ.blk id) ∧ ρ.blk id < w.heap.size := by
  cases e with
  | own T l => obtain ⟨_, _, h1, vs, _, hh⟩ := h; exact ⟨h1, heap_lt hh⟩
  | row T l => obtain ⟨_, _, h1, vs, r, _, hh⟩ := h; exact ⟨h1, heap_lt hh⟩
  | orow e d =>
    rcases h with ⟨h0, _⟩ | ⟨_, _, h1, cs, hh, _⟩
    · rw [h0] at hi; cases hi
    · exact ⟨h1, heap_lt hh⟩
  | ro l => cases ho
  | gone => cases ho
theorem rowAt_mono {ρ ρ' : Map} {w w' : World} {b c : Nat} {e : TypeId} {d : D} (hz : FzLe ρ.fz ρ'.fz) (hk : w'.heap[b]? = w.heap[b]?) (h : RowAt ρ w b c e d) : RowAt ρ' w' b c e d := by
  obtain ⟨cs, h1, h2, h3, h4⟩ := h
  refine ⟨cs, by rw [hk]; exact h1, h2, h3, fun i j k hi hj => ?_⟩
  obtain ⟨u, hu, hr⟩ := h4 i j k hi hj
  exact ⟨u, hu, hr.mono hz⟩
/-- An entry whose block is as it was. -/
theorem erel_keep {B : Nat} {ρ ρ' : Map} {w w' : World} {id : Nat} {e : Ent} (hx : Ext ρ ρ') (heq : ρ' id = ρ id) (hm : e.isOwn = true → (ρ id).isSome = true → ρ'.fz (ρ.blk id) = none) (h : ERel B ρ w id e) (hk : e.isOwn = true → (ρ id).isSome = true → w'.heap[ρ.blk id]? = w.heap[ρ.blk id]?) : ERel B ρ' w' id e := by
  have mine : e.isOwn = true → (ρ id).isSome = true → Mine B ρ (ρ.blk id) → Mine B ρ' (ρ'.blk id) := fun ho hi hM => by
    rw [(hx.at hi).2.1]
    exact ⟨by rw [hx.mu]; exact hM.1, hm ho hi⟩
  cases e with
  | own T l =>
    obtain ⟨h0, h1, h2, vs, h3, h4⟩ := h
    obtain ⟨g0, g1, g2, _⟩ := hx.at h0
    exact ⟨g0, by rw [g2]; exact h1, mine rfl h0 h2, vs, csrel_ext hx h3, by rw [g1, hk rfl h0]; exact h4⟩
  | row T l =>
    obtain ⟨h0, h1, h2, vs, r, h3, h4⟩ := h
    obtain ⟨g0, g1, g2, _⟩ := hx.at h0
    exact ⟨g0, by rw [g2]; exact h1, mine rfl h0 h2, vs, r, csrel_ext hx h3, by rw [g1, hk rfl h0]; exact h4⟩
  | orow e d =>
    rcases h with ⟨h0, h1⟩ | ⟨h0, h1, h2, h3⟩
    · exact .inl ⟨by rw [heq]; exact h0, h1⟩
    · obtain ⟨g0, g1, g2, _⟩ := hx.at h0
      refine .inr ⟨g0, by rw [g2]; exact h1, mine rfl h0 h2, ?_⟩
      rw [g1, hx.cap id h0]
      exact rowAt_mono hx.fz (hk rfl h0) h3
  | ro l =>
    obtain ⟨h0, vs, h3, h4⟩ := h
    obtain ⟨g0, g1, g2, g3⟩ := hx.at h0
    refine ⟨g0, vs, csrel_ext hx h3, fun o v ho => ?_⟩
    rw [g1, g2]
    exact hx.fz.cell (h4 o v ho)
  | gone => trivial
/-- Behind an operation: memory. -/
theorem wh_step {w0 : W0} {w w' : World} {ρ ρ' : Map} {hp : Heap} {e : Eff} (h : WH w0 ρ hp w) (hf : Fr w0.heap.size ρ ρ' w w' e) (hst' : ∀ id x, look e.st id = some x → x.okSt = true ∧ look e.nw id = none ∧ ∃ y, look hp id = some y ∧ y.isOwn = true) (_hnw : ∀ id x, look e.nw id = some x → ρ id = none) : WH w0 ρ' (e.st ++ (e.nw ++ hp)) w' := by
  have hB : w0.heap.size ≤ w.heap.size := h.below.size
  have stM : ∀ id x, look e.st id = some x → (ρ id).isSome = true → Mine w0.heap.size ρ (ρ.blk id) := fun id x hx hi => by
    obtain ⟨_, _, y, hy, ho⟩ := hst' id x hx
    exact (erel_some (h.ents id y hy) ho hi).1
  have ownOld : ∀ id y, look hp id = some y → y.isOwn = true → (ρ id).isSome = true → Mine w0.heap.size ρ (ρ.blk id) ∧ ρ.blk id < w.heap.size := fun id y hy ho hi => erel_some (h.ents id y hy) ho hi
  -- blocks that nobody changes
  have fzKeep : ∀ b cs, ρ.fz b = some cs → w'.heap[b]? = w.heap[b]? := fun b cs hc => by
    obtain ⟨T, z, hh⟩ := h.froz b cs hc
    refine hf.keep b (heap_lt hh) fun id x hx hi hb => ?_
    have := (stM id x hx hi).2
    rw [hb, hc] at this; cases this
  -- an elder entry's block isn't frozen now
  have fzOld : ∀ id y, look hp id = some y → y.isOwn = true → (ρ id).isSome = true → look e.st id ≠ some .gone → ρ'.fz (ρ.blk id) = none := fun id y hy ho hi hg => by
    cases hc : ρ'.fz (ρ.blk id) with
    | none => rfl
    | some cs =>
      obtain ⟨hM, hlt⟩ := ownOld id y hy ho hi
      rcases hf.fz _ cs hc with h1 | ⟨h1 | ⟨k, hk, hki, hkb⟩, _⟩
      · rw [hM.2] at h1; cases h1
      · omega
      · obtain ⟨_, _, z, hz, hzo⟩ := hst' k _ hk
        by_cases hkid : k = id
        · subst hkid; exact absurd hk hg
        · exact absurd hkb (fun e => h.apart k id z y hz hy hzo ho hkid hki hi e.symm)
  -- what an own id of the new heap is
  have cases3 : ∀ id x, look (e.st ++ (e.nw ++ hp)) id = some x → (look e.st id = some x) ∨ (look e.st id = none ∧ look e.nw id = some x) ∨ (look e.st id = none ∧ look e.nw id = none ∧ look hp id = some x) := fun id x hx => by
    rw [look_append] at hx
    cases h1 : look e.st id with
    | some y => rw [h1] at hx; exact .inl hx
    | none =>
      rw [h1, look_append] at hx
      cases h2 : look e.nw id with
      | some y => rw [h2] at hx; exact .inr (.inl ⟨rfl, hx⟩)
      | none => rw [h2] at hx; exact .inr (.inr ⟨rfl, rfl, hx⟩)
  -- the block of an own entry behind the operation
  have blkOf : ∀ id x, look (e.st ++ (e.nw ++ hp)) id = some x → x.isOwn = true → (ρ' id).isSome = true → (look e.st id ≠ some .gone ∧ (ρ id).isSome = true ∧ (∃ y, look hp id = some y ∧ y.isOwn = true) ∧ ρ'.blk id = ρ.blk id ∧ ρ.blk id < w.heap.size) ∨ (look e.nw id = some x ∧ look e.st id = none ∧ (w.heap.size ≤ ρ'.blk id ∨ Killed ρ e.st (ρ'.blk id))) := fun id x hx ho hi => by
    rcases cases3 id x hx with h1 | ⟨h1, h2⟩ | ⟨h1, h2, h3⟩
    · obtain ⟨_, hn, y, hy, hyo⟩ := hst' id x h1
      have hi' : (ρ id).isSome = true := by rw [← hf.only id hn]; exact hi
      obtain ⟨_, g2⟩ := ownOld id y hy hyo hi'
      refine .inl ⟨fun hg => ?_, hi', ⟨y, hy, hyo⟩, (hf.ext.at hi').2.1, g2⟩
      rw [h1] at hg
      obtain rfl := by simpa using hg
      cases ho
    · exact .inr ⟨h2, h1, (hf.nw id x h2).2.1 hi⟩
    · have hi' : (ρ id).isSome = true := by rw [← hf.only id h2]; exact hi
      obtain ⟨_, g2⟩ := ownOld id x h3 ho hi'
      exact .inl ⟨(by rw [h1]; exact (fun h => by cases h)), hi', ⟨x, h3, ho⟩, (hf.ext.at hi').2.1, g2⟩
  refine ⟨?_, ?_, ?_, ?_, ?_, hf.ext.mu.trans h.mu0, hf.ext.f0.trans h.f00, ?_, fun p hp => hf.ext.m 0 p (h.anc p hp), h.tab⟩
  · rw [hf.ext.mu]
    refine h.below.trans ?_
    refine ⟨hf.below.os, hf.below.tape, hf.below.output, hf.below.size, fun k hk hm => hf.keep k (by omega) fun id x hx hi hb => ?_⟩
    rcases (stM id x hx hi).1 with h1 | h1
    · omega
    · rw [hb, hm] at h1; cases h1
  · intro id x hx
    rcases cases3 id x hx with h1 | ⟨_, h2⟩ | ⟨h1, h2, h3⟩
    · exact hf.st id x h1
    · exact (hf.nw id x h2).1
    · have old := h.ents id x h3
      refine erel_keep hf.ext (hf.only id h2) (fun ho hi => fzOld id x h3 ho hi (by rw [h1]; exact (fun h => by cases h))) old fun ho hi => hf.keep _ (ownOld id x h3 ho hi).2 fun j y hj hji => ?_
      obtain ⟨_, _, z, hz, hzo⟩ := hst' j y hj
      refine h.apart j id z _ hz h3 hzo ho ?_ hji hi
      rintro rfl; rw [h1] at hj; cases hj
  · intro i j x y hi hj hxo hyo hne hii hjj
    rcases blkOf i x hi hxo hii with ⟨hgi, hsi, ⟨a, ha, hao⟩, hbi, hli⟩ | ⟨hni, _, hbi⟩
    · rcases blkOf j y hj hyo hjj with ⟨_, hsj, ⟨b, hb, hbo⟩, hbj, hlj⟩ | ⟨hnj, _, hbj⟩
      · rw [hbi, hbj]; exact h.apart i j a b ha hb hao hbo hne hsi hsj
      · rw [hbi]
        rcases hbj with hbj | ⟨k, hk, hki, hkb⟩
        · omega
        · rw [hkb]
          obtain ⟨_, _, z, hz, hzo⟩ := hst' k _ hk
          refine h.apart i k a z ha hz hao hzo ?_ hsi hki
          rintro rfl; exact hgi hk
    · rcases blkOf j y hj hyo hjj with ⟨hgj, hsj, ⟨b, hb, hbo⟩, hbj, hlj⟩ | ⟨hnj, _, hbj⟩
      · rw [hbj]
        rcases hbi with hbi | ⟨k, hk, hki, hkb⟩
        · omega
        · rw [hkb]
          obtain ⟨_, _, z, hz, hzo⟩ := hst' k _ hk
          refine h.apart k j z b hz hb hzo hbo ?_ hki hsj
          rintro rfl; exact hgj hk
      · exact hf.apart i j x y hni hnj hne hii hjj
  · intro b cs hc
    rcases hf.fz b cs hc with h1 | ⟨_, h2, _⟩
    · rw [fzKeep b cs h1]; exact h.froz b cs h1
    · exact h2
  · rw [hf.ext.f0]
    exact fun b cs hc => hf.ext.fz b cs (h.sub b cs hc)
  · intro b cs hc
    rw [hf.ext.f0, hf.ext.mu]
    rcases hf.fz b cs hc with h1 | ⟨h1 | ⟨k, hk, hki, rfl⟩, _⟩
    · exact h.old b cs h1
    · exact .inr (.inl (by omega))
    · exact .inr (stM k _ hk hki).1

/-! ### Slots -/
def noG (d : Nat) : Slots → Bool
  | [] => true
  | (_, .cond g _) :: r => g.all (fun p => !Nat.beq p.1 d) && noG d r
  | _ :: r => noG d r
theorem gd_put {a : Act} {d : Nat} {v : Value} {g : List (Nat × Bool)} (h : g.all (fun p => !Nat.beq p.1 d) = true) : Gd (a.put (some d) v).tmps g ↔ Gd a.tmps g := by
  unfold Gd
  rw [List.all_eq_true] at h
  have key : ∀ p ∈ g, (a.put (some d) v).tmps.getD p.1 undef = a.tmps.getD p.1 undef := fun p hp => by
    have := h p hp
    have hne : d ≠ p.1 := by
      intro e; subst e; simp at this
    simp [Act.put, Array.getElem?_setIfInBounds_ne hne]
  constructor
  · intro hg p hp; rw [← key p hp]; exact hg p hp
  · intro hg p hp; rw [key p hp]; exact hg p hp
theorem noG_spec {d : Nat} : ∀ {tm : Slots}, noG d tm = true → ∀ t g x, look tm t = some (.cond g x) → g.all (fun p => !Nat.beq p.1 d) = true
  | [], _, t, g, x, h => by simp [look] at h
  | (j, sv) :: r, hn, t, g, x, h => by
    simp only [look] at h
    split at h
    · obtain rfl := by simpa using h
      simp only [noG, Bool.and_eq_true] at hn
      exact hn.1
    · refine noG_spec ?_ t g x h
      cases sv <;> first | exact hn | (simp only [noG, Bool.and_eq_true] at hn; exact hn.2)
def svG (d : Nat) : SV → Bool | .cond g _ => g.all (fun p => !Nat.beq p.1 d) | _ => true
theorem vrel_put {ρ : Map} {a : Act} {d : Nat} {v : Value} {x : SV} {u : Value} (hx : svG d x = true) (h : VRel ρ a.tmps x u) : VRel ρ (a.put (some d) v).tmps x u := by
  cases x with
  | cond g y =>
    have := gd_put (a := a) (v := v) hx
    exact ⟨fun hg => h.1 (this.1 hg), fun hg => h.2 (fun hg' => hg (this.2 hg'))⟩
  | _ => exact h
/-- Behind an operation: the slots. -/
def putS (d : Option Nat) (sv : SV) (tm : Slots) : Slots := match d with | some d => (d, sv) :: tm | none => tm
def dOK (nt : Nat) (tm : Slots) (d : Option Nat) (sv : SV) : Bool := match d with | some d => Nat.blt d nt && noG d tm && svG d sv | none => true
theorem ah_step2 {ρ ρ' : Map} {nt : Nat} {tm : Slots} {a : Act} {d : Nat} {sv : SV} {v : Value} (h : AH ρ nt tm a) (hx : Ext ρ ρ') (hlt : d < nt) (hn : ∀ t g x, look tm t = some (.cond g x) → g.all (fun p => !Nat.beq p.1 d) = true) (hs : svG d sv = true) (hv : VRel ρ' a.tmps sv v) : AH ρ' nt ((d, sv) :: tm) (a.put (some d) v) := by
  have hlt' : d < a.tmps.size := by rw [h.size]; exact hlt
  refine ⟨by simp [Act.put, h.size], h.defers, fun t x ht => ?_⟩
  simp only [look] at ht
  split at ht
  · rename_i hj
    obtain rfl : d = t := by simpa using hj
    obtain rfl := by simpa using ht
    have : (a.put (some d) v).tmps.getD d undef = v := by simp [Act.put, hlt']
    rw [this]
    exact vrel_put hs hv
  · rename_i hj
    have hne : d ≠ t := by intro e; subst e; simp at hj
    have : (a.put (some d) v).tmps.getD t undef = a.tmps.getD t undef := by simp [Act.put, Array.getElem?_setIfInBounds_ne hne]
    rw [this]
    refine vrel_put ?_ (vrel_ext hx (h.slots t x ht))
    cases x with
    | cond g y => exact hn t g y ht
    | _ => rfl
theorem ah_step {ρ ρ' : Map} {nt : Nat} {tm : Slots} {a : Act} {d : Option Nat} {sv : SV} {v : Value} (h : AH ρ nt tm a) (hx : Ext ρ ρ') (hd : dOK nt tm d sv = true) (hv : VRel ρ' a.tmps sv v) : AH ρ' nt (putS d sv tm) (a.put d v) := by
  cases d with
  | none => exact ⟨h.size, h.defers, fun t x ht => vrel_ext hx (h.slots t x ht)⟩
  | some d =>
    simp only [dOK, Bool.and_eq_true] at hd
    obtain ⟨⟨hlt, hn⟩, hs⟩ := hd
    exact ah_step2 h hx (by simpa [Nat.blt_eq] using hlt) (noG_spec hn) hs hv
end Go.Proofs.Ytbhbjhejkamlnaa.Sx
