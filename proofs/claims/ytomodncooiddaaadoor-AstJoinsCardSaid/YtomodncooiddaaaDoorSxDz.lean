/-
  Calls that are handed rows of one's own whose cells are known one by one: these lie still from then on.
-/
import Derived.Test.YtomodncooiddaaaDoorSxP
namespace Go.Proofs.YtomodncooiddaaaDoor.Sx
open Go.RowKit
def deepS (g : SC → SC × List Prop × List Nat) : List Seg → List Seg × List Prop × List Nat
  | [] => ([], [], [])
  | .c x :: r => (match g x, deepS g r with | (x', ps, is), (r', qs, js) => (.c x' :: r', ps ++ qs, is ++ js))
  | .ints k n f :: r => (match deepS g r with | (r', qs, js) => (.ints k n f :: r', qs, js))
def deepR (hp : Heap) (g : SC → SC × List Prop × List Nat) (id n : Nat) : SC × List Prop × List Nat := match look hp id with
  | some (.own e l) => (match rowsDs (eks e) n (deepS g l).1 with
    | some r => (.rows e (.l r), (deepS g l).2.1, id :: (deepS g l).2.2)
    | none => (.slice id (.lit 0) (.lit n), [], []))
  | _ => (.slice id (.lit 0) (.lit n), [], [])
def deepX (hp : Heap) : Nat → SC → SC × List Prop × List Nat
  | 0, x => (x, [], [])
  | f + 1, .slice id (.lit 0) (.lit n) => deepR hp (deepX hp f) id n
  | _ + 1, x => fzC hp x
theorem deepX_alt (hp : Heap) (f : Nat) (x : SC) : (∃ id n, x = .slice id (.lit 0) (.lit n) ∧ deepX hp (f + 1) x = deepR hp (deepX hp f) id n) ∨ deepX hp (f + 1) x = fzC hp x := by
  unfold deepX
  split
  · rename_i h; cases h
  · rename_i f' id n h
    cases h
    exact .inl ⟨id, n, rfl, rfl⟩
  · exact .inr rfl
def deepV (hp : Heap) : SV → SV × List Prop × List Nat
  | .one (.sc x) => (match deepX hp 6 x with | (x', r) => (.one (.sc x'), r))
  | .one (.agg a) => (match deepS (deepX hp 6) a with | (a', r) => (.one (.agg a'), r))
  | x => (x, [], [])
def deepA (hp : Heap) : List SV → List SV × List Prop × List Nat
  | [] => ([], [], [])
  | x :: r => (match deepV hp x, deepA hp r with | (x', ps, is), (r', qs, js) => (x' :: r', ps ++ qs, is ++ js))
section
variable {hp : Heap} {w0 : W0} {w : World} {ρ : Map} {all : List Nat}
theorem deepS_spec {g : SC → SC × List Prop × List Nat} (ext : Ext ρ (ρ.frz w all)) (hg : ∀ x, All (g x).2.1 → (∀ id ∈ (g x).2.2, ownId hp id = true → id ∈ all) → ∀ {v : Value}, CRel ρ x v → CRel (ρ.frz w all) (g x).1 v) :
    ∀ (x : List Seg), All (deepS g x).2.1 → (∀ id ∈ (deepS g x).2.2, ownId hp id = true → id ∈ all) → ∀ {vs : List Value}, CsRel ρ (cellsOf x) vs → CsRel (ρ.frz w all) (cellsOf (deepS g x).1) vs
  | [], _, _, vs, hv => csrel_ext ext hv
  | .c x :: r, hp', hall, vs, hv => by
    obtain ⟨hp1, hp2⟩ := all_append.1 (show All ((g x).2.1 ++ (deepS g r).2.1) from hp')
    have hall' : ∀ id ∈ (g x).2.2 ++ (deepS g r).2.2, ownId hp id = true → id ∈ all := hall
    show CsRel (ρ.frz w all) (cellsOf (.c (g x).1 :: (deepS g r).1)) vs
    rw [cellsOf_cons] at hv ⊢
    obtain ⟨u, v, rfl, g1, g2⟩ := csrel_cons.1 hv
    refine csrel_append ⟨g1.1, fun i a b ha hb => ?_⟩ (deepS_spec ext hg r hp2 (fun id hi => hall' id (List.mem_append_right _ hi)) g2)
    cases i with
    | zero =>
      simp only [Seg.cells, List.getElem?_cons_zero, Option.some.injEq] at ha
      subst ha
      exact hg x hp1 (fun id hi => hall' id (List.mem_append_left _ hi)) (g1.2 0 x b (by simp [Seg.cells]) hb)
    | succ i => simp [Seg.cells] at ha
  | .ints k n f :: r, hp', hall, vs, hv => by
    show CsRel (ρ.frz w all) (cellsOf (.ints k n f :: (deepS g r).1)) vs
    rw [cellsOf_cons] at hv ⊢
    obtain ⟨u, v, rfl, g1, g2⟩ := csrel_cons.1 hv
    exact csrel_append (csrel_ext ext g1) (deepS_spec ext hg r hp' hall g2)
theorem deepR_spec (hw : WH w0 ρ hp w) {g : SC → SC × List Prop × List Nat} (hg : ∀ x, All (g x).2.1 → (∀ id ∈ (g x).2.2, ownId hp id = true → id ∈ all) → ∀ {v : Value}, CRel ρ x v → CRel (ρ.frz w all) (g x).1 v) (id n : Nat) (hp' : All (deepR hp g id n).2.1) (hall : ∀ i ∈ (deepR hp g id n).2.2, ownId hp i = true → i ∈ all) {v : Value} (hv : CRel ρ (.slice id (.lit 0) (.lit n)) v) : CRel (ρ.frz w all) (deepR hp g id n).1 v := by
  have ext : Ext ρ (ρ.frz w all) := (fr_freeze (B := 0) hw.froz all .junk []).ext
  unfold deepR at hp' hall ⊢
  cases hl : look hp id with
  | none => exact crel_ext ext hv
  | some en =>
    rw [hl] at hp' hall
    cases en with
    | own e l =>
      dsimp only at hp' hall ⊢
      cases hr : rowsDs (eks e) n (deepS g l).1 with
      | none => exact crel_ext ext hv
      | some r =>
        rw [hr] at hp' hall
        dsimp only at hp' hall ⊢
        obtain ⟨A, c, rfl, hc, hA⟩ := hv
        obtain ⟨h1, h2, _, vs, hcs, hh⟩ := hw.ents id _ hl
        have hcs' := deepS_spec (hp := hp) ext hg l hp' (fun i hi ho => hall i (List.mem_cons_of_mem _ hi) ho) hcs
        obtain ⟨k1, k2, k3⟩ := rowsDs_spec n _ r hr _ hcs'
        have hlen : (D.l r).len = n := k1
        rcases hA with ⟨hid, rfl⟩ | ⟨hn, hc0⟩
        · have hF := passF_at hw.froz (hall id (List.mem_cons_self ..) (by simp [ownId, hl, Ent.isOwn])) hid hh
          have e0 : ρ.at id (SO.lit 0).v = ⟨ρ.blk id, 0, none⟩ := by simp [Map.at, h2, SO.v]
          rw [e0]
          have hn : (SN.lit n).v = (D.l r).len := hlen.symm
          rw [hn]
          refine .slice e (.l r) (ρ.blk id) 0 c (fun i j => (vs[i * (eks e).length + j]?).getD undef) (by rw [← hn]; exact hc) (fun i j hi hj => ?_) (fun i j k hi hk => ?_)
          · obtain ⟨u, hu, _⟩ := k3 i j _ (by omega) (List.getElem?_eq_getElem hj)
            show Fz.cell (passF ρ w all) _ _ = _
            simp only [Fz.cell, hF, Nat.zero_add]
            simp [hu]
          · obtain ⟨u, hu, ht⟩ := k3 i j k (by omega) hk
            simp only [hu, Option.getD_some]
            exact ht
        · have hn0 : n = 0 := hn
          subst hn0
          subst hc0
          cases A with
          | none => exact .nil e (.l r) hlen
          | some a => exact .empty e (.l r) a 0 hlen
    | _ => exact crel_ext ext hv
theorem deepX_spec (hw : WH w0 ρ hp w) : ∀ (f : Nat) (x : SC), All (deepX hp f x).2.1 → (∀ id ∈ (deepX hp f x).2.2, ownId hp id = true → id ∈ all) → ∀ {v : Value}, CRel ρ x v → CRel (ρ.frz w all) (deepX hp f x).1 v
  | 0, x, _, _, v, hv => crel_ext (fr_freeze (B := 0) hw.froz all .junk []).ext hv
  | f + 1, x, hp', hall, v, hv => by
    rcases deepX_alt hp f x with ⟨id, n, rfl, e⟩ | e
    · rw [e] at hp' hall ⊢
      exact deepR_spec hw (fun x => deepX_spec hw f x) id n hp' hall hv
    · rw [e] at hp' hall ⊢
      exact fzC_spec hw x hp' hall hv
theorem deepV_spec (hw : WH w0 ρ hp w) (x : SV) (hp' : All (deepV hp x).2.1) (hall : ∀ id ∈ (deepV hp x).2.2, ownId hp id = true → id ∈ all) {v : Value} (hv : UR ρ x v) : UR (ρ.frz w all) (deepV hp x).1 v := by
  have ext : Ext ρ (ρ.frz w all) := (fr_freeze (B := 0) hw.froz all .junk []).ext
  cases x with
  | one x =>
    cases x with
    | sc c => exact deepX_spec hw 6 c hp' hall hv
    | agg l => obtain ⟨cs, rfl, hc⟩ := hv; exact ⟨cs, rfl, deepS_spec (hp := hp) ext (fun x => deepX_spec hw 6 x) l hp' hall hc⟩
  | tup l => exact ur_ext ext hv
  | cond => exact hv.elim
  | junk => exact hv.elim
theorem deepA_spec (hw : WH w0 ρ hp w) : ∀ (l : List SV) (vs : List Value), All (deepA hp l).2.1 → (∀ id ∈ (deepA hp l).2.2, ownId hp id = true → id ∈ all) → ArgsRel ρ l vs → ArgsRel (ρ.frz w all) (deepA hp l).1 vs
  | [], [], _, _, _ => trivial
  | [], _ :: _, _, _, h => h.elim
  | _ :: _, [], _, _, h => h.elim
  | x :: r, v :: vs, hp', hall, h => by
    obtain ⟨hp1, hp2⟩ := all_append.1 (show All ((deepV hp x).2.1 ++ (deepA hp r).2.1) from hp')
    have hall' : ∀ id ∈ (deepV hp x).2.2 ++ (deepA hp r).2.2, ownId hp id = true → id ∈ all := hall
    exact ⟨deepV_spec hw x hp1 (fun id hi => hall' id (List.mem_append_left _ hi)) h.1, deepA_spec hw r vs hp2 (fun id hi => hall' id (List.mem_append_right _ hi)) h.2⟩
end
/-- All that is written is one's own. -/
def stOwn (hp : Heap) : Heap → Bool
  | [] => true
  | (id, _) :: r => ownId hp id && stOwn hp r
theorem stOwn_look {hp : Heap} : ∀ {st : Heap}, stOwn hp st = true → ∀ {id : Nat} {x : Ent}, look st id = some x → ownId hp id = true
  | [], _, id, x, h => by simp [look] at h
  | (j, y) :: r, hs, id, x, h => by
    simp only [stOwn, Bool.and_eq_true] at hs
    simp only [look] at h
    split at h
    · rename_i hj
      obtain rfl : j = id := by simpa using hj
      exact hs.1
    · exact stOwn_look hs.2 h
/-- A contract that takes rows of one's own whose cells are known, too. -/
def conZ (c : Con) : Con := fun hp fr args => match args with
  | .junk :: r => c hp fr (.junk :: r)
  | args => match c hp fr args with
    | some e => some e
    | none => (match deepA hp args with
      | (bs, ps, ids) => (match c (kills (keepOwn hp ids) ++ hp) fr bs with
        | some e => if stOwn (kills (keepOwn hp ids) ++ hp) e.st then some { e with vc := ps ++ e.vc, st := kills (keepOwn hp ids) ++ e.st } else none
        | none => none))
theorem conZ_ok {P : Program} {f : FuncId} {c : Con} (h : ConOK P f c) : ConOK P f (conZ c) := by
  refine ⟨h.enters, fun hp fr args e he hv w0 w ρ vs hw hn ha => ?_, fun hp fr caps e he => h.clo hp fr caps e he⟩
  unfold conZ at he
  split at he
  · exact h.calls hp fr _ e he hv w0 w ρ vs hw hn ha
  · split at he
    · rename_i e' he'
      obtain rfl := Option.some.inj he
      exact h.calls hp fr _ _ he' hv w0 w ρ vs hw hn ha
    · dsimp only at he
      split at he
      · rename_i e' he'
        split at he
        · rename_i hso
          obtain rfl := Option.some.inj he
          obtain ⟨hp1, hp2⟩ := all_append.1 hv
          have hw1 := wh_frz hw (deepA hp args).2.2
          have ha1 := deepA_spec hw args vs hp1 (all := keepOwn hp (deepA hp args).2.2) (fun id hi ho => keepOwn_mem.2 ⟨hi, ho⟩) ha
          refine (h.calls _ fr _ e' he' hp2 w0 w _ vs hw1 hn ha1).mono ?_
          rintro en w' ⟨ρ', v, rfl, g1, g2⟩
          refine ⟨ρ', v, rfl, g1, fr_comp hw.froz g2 (fun id x hx hs => ?_) _⟩
          have ho := stOwn_look hso hx
          unfold ownId at ho
          split at ho
          · rename_i y hy
            exact (erel_some (hw1.ents id y hy) ho hs).1.2
          · cases ho
        · cases he
      · cases he
end Go.Proofs.YtomodncooiddaaaDoor.Sx
