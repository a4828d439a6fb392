/-
  Calls that are handed rows of one's own whose cells are known one by one: these lie still from then on.
  The laws' texts.
  Rows that are told by a function of the place.
  AstLong's contract.
-/
import Derived.Test.YtomodncooiddaaaDoorSxP
import Derived.Test.YtomodncooiddaaaDoorLt
namespace Go.Proofs.YtomodncooiddaaaDoor.Sx
open Go.RowKit
def deepS (g : SC → SC × List Prop × List Nat) : List Seg → List Seg × List Prop × List Nat
  | [] => ([], [], [])
  | .c x :: r => (match g x, deepS g r with | (x', ps, is), (r', qs, js) => (.c x' :: r', ps ++ qs, is ++ js))
  | .ints k n f :: r => (match deepS g r with | (r', qs, js) => (.ints k n f :: r', qs, js))
def deepR (hp : Heap) (g : SC → SC × List Prop × List Nat) (id n : Nat) : SC × List Prop × List Nat := match look hp id with
  | some (.own e l) => (match rowsDs (eks e) n (deepS g l).1 with
    | some r => (.rows e (.l r), (deepS g l).2.1, id :: (deepS g l).2.2)
    | none => (.slice id (.lit 0) (.lit n), [], []))
  | _ => (.slice id (.lit 0) (.lit n), [], [])
def deepX (hp : Heap) : Nat → SC → SC × List Prop × List Nat
  | 0, x => (x, [], [])
  | f + 1, .slice id (.lit 0) (.lit n) => deepR hp (deepX hp f) id n
  | _ + 1, x => fzC hp x
theorem deepX_alt (hp : Heap) (f : Nat) (x : SC) : (∃ id n, x = .slice id (.lit 0) (.lit n) ∧ deepX hp (f + 1) x = deepR hp (deepX hp f) id n) ∨ deepX hp (f + 1) x = fzC hp x := by
  unfold deepX
  split
  · rename_i h; cases h
  · rename_i f' id n h
    cases h
    exact .inl ⟨id, n, rfl, rfl⟩
  · exact .inr rfl
def deepV (hp : Heap) : SV → SV × List Prop × List Nat
  | .one (.sc x) => (match deepX hp 6 x with | (x', r) => (.one (.sc x'), r))
  | .one (.agg a) => (match deepS (deepX hp 6) a with | (a', r) => (.one (.agg a'), r))
  | x => (x, [], [])
def deepA (hp : Heap) : List SV → List SV × List Prop × List Nat
  | [] => ([], [], [])
  | x :: r => (match deepV hp x, deepA hp r with | (x', ps, is), (r', qs, js) => (x' :: r', ps ++ qs, is ++ js))
section
variable {hp : Heap} {w0 : W0} {w : World} {ρ : Map} {all : List Nat}
theorem deepS_spec {g : SC → SC × List Prop × List Nat} (ext : Ext ρ (ρ.frz w all)) (hg : ∀ x, All (g x).2.1 → (∀ id ∈ (g x).2.2, ownId hp id = true → id ∈ all) → ∀ {v : Value}, CRel ρ x v → CRel (ρ.frz w all) (g x).1 v) :
    ∀ (x : List Seg), All (deepS g x).2.1 → (∀ id ∈ (deepS g x).2.2, ownId hp id = true → id ∈ all) → ∀ {vs : List Value}, CsRel ρ (cellsOf x) vs → CsRel (ρ.frz w all) (cellsOf (deepS g x).1) vs
  | [], _, _, vs, hv => csrel_ext ext hv
  | .c x :: r, hp', hall, vs, hv => by
    obtain ⟨hp1, hp2⟩ := all_append.1 (show All ((g x).2.1 ++ (deepS g r).2.1) from hp')
    have hall' : ∀ id ∈ (g x).2.2 ++ (deepS g r).2.2, ownId hp id = true → id ∈ all := hall
    show CsRel (ρ.frz w all) (cellsOf (.c (g x).1 :: (deepS g r).1)) vs
    rw [cellsOf_cons] at hv ⊢
    obtain ⟨u, v, rfl, g1, g2⟩ := csrel_cons.1 hv
    refine csrel_append ⟨g1.1, fun i a b ha hb => ?_⟩ (deepS_spec ext hg r hp2 (fun id hi => hall' id (List.mem_append_right _ hi)) g2)
    cases i with
    | zero =>
      simp only [Seg.cells, List.getElem?_cons_zero, Option.some.injEq] at ha
      subst ha
      exact hg x hp1 (fun id hi => hall' id (List.mem_append_left _ hi)) (g1.2 0 x b (by simp [Seg.cells]) hb)
    | succ i => simp [Seg.cells] at ha
  | .ints k n f :: r, hp', hall, vs, hv => by
    show CsRel (ρ.frz w all) (cellsOf (.ints k n f :: (deepS g r).1)) vs
    rw [cellsOf_cons] at hv ⊢
    obtain ⟨u, v, rfl, g1, g2⟩ := csrel_cons.1 hv
    exact csrel_append (csrel_ext ext g1) (deepS_spec ext hg r hp' hall g2)
theorem deepR_spec (hw : WH w0 ρ hp w) {g : SC → SC × List Prop × List Nat} (hg : ∀ x, All (g x).2.1 → (∀ id ∈ (g x).2.2, ownId hp id = true → id ∈ all) → ∀ {v : Value}, CRel ρ x v → CRel (ρ.frz w all) (g x).1 v) (id n : Nat) (hp' : All (deepR hp g id n).2.1) (hall : ∀ i ∈ (deepR hp g id n).2.2, ownId hp i = true → i ∈ all) {v : Value} (hv : CRel ρ (.slice id (.lit 0) (.lit n)) v) : CRel (ρ.frz w all) (deepR hp g id n).1 v := by
  have ext : Ext ρ (ρ.frz w all) := (fr_freeze (B := 0) hw.froz all .junk []).ext
  unfold deepR at hp' hall ⊢
  cases hl : look hp id with
  | none => exact crel_ext ext hv
  | some en =>
    rw [hl] at hp' hall
    cases en with
    | own e l =>
      dsimp only at hp' hall ⊢
      cases hr : rowsDs (eks e) n (deepS g l).1 with
      | none => exact crel_ext ext hv
      | some r =>
        rw [hr] at hp' hall
        dsimp only at hp' hall ⊢
        obtain ⟨A, c, rfl, hc, hA⟩ := hv
        obtain ⟨h1, h2, _, vs, hcs, hh⟩ := hw.ents id _ hl
        have hcs' := deepS_spec (hp := hp) ext hg l hp' (fun i hi ho => hall i (List.mem_cons_of_mem _ hi) ho) hcs
        obtain ⟨k1, k2, k3⟩ := rowsDs_spec n _ r hr _ hcs'
        have hlen : (D.l r).len = n := k1
        rcases hA with ⟨hid, rfl⟩ | ⟨hn, hc0⟩
        · have hF := passF_at hw.froz (hall id (List.mem_cons_self ..) (by simp [ownId, hl, Ent.isOwn])) hid hh
          have e0 : ρ.at id (SO.lit 0).v = ⟨ρ.blk id, 0, none⟩ := by simp [Map.at, h2, SO.v]
          rw [e0]
          have hn : (SN.lit n).v = (D.l r).len := hlen.symm
          rw [hn]
          refine .slice e (.l r) (ρ.blk id) 0 c (fun i j => (vs[i * (eks e).length + j]?).getD undef) (by rw [← hn]; exact hc) (fun i j hi hj => ?_) (fun i j k hi hk => ?_)
          · obtain ⟨u, hu, _⟩ := k3 i j _ (by omega) (List.getElem?_eq_getElem hj)
            show Fz.cell (passF ρ w all) _ _ = _
            simp only [Fz.cell, hF, Nat.zero_add]
            simp [hu]
          · obtain ⟨u, hu, ht⟩ := k3 i j k (by omega) hk
            simp only [hu, Option.getD_some]
            exact ht
        · have hn0 : n = 0 := hn
          subst hn0
          subst hc0
          cases A with
          | none => exact .nil e (.l r) hlen
          | some a => exact .empty e (.l r) a 0 hlen
    | _ => exact crel_ext ext hv
theorem deepX_spec (hw : WH w0 ρ hp w) : ∀ (f : Nat) (x : SC), All (deepX hp f x).2.1 → (∀ id ∈ (deepX hp f x).2.2, ownId hp id = true → id ∈ all) → ∀ {v : Value}, CRel ρ x v → CRel (ρ.frz w all) (deepX hp f x).1 v
  | 0, x, _, _, v, hv => crel_ext (fr_freeze (B := 0) hw.froz all .junk []).ext hv
  | f + 1, x, hp', hall, v, hv => by
    rcases deepX_alt hp f x with ⟨id, n, rfl, e⟩ | e
    · rw [e] at hp' hall ⊢
      exact deepR_spec hw (fun x => deepX_spec hw f x) id n hp' hall hv
    · rw [e] at hp' hall ⊢
      exact fzC_spec hw x hp' hall hv
theorem deepV_spec (hw : WH w0 ρ hp w) (x : SV) (hp' : All (deepV hp x).2.1) (hall : ∀ id ∈ (deepV hp x).2.2, ownId hp id = true → id ∈ all) {v : Value} (hv : UR ρ x v) : UR (ρ.frz w all) (deepV hp x).1 v := by
  have ext : Ext ρ (ρ.frz w all) := (fr_freeze (B := 0) hw.froz all .junk []).ext
  cases x with
  | one x =>
    cases x with
    | sc c => exact deepX_spec hw 6 c hp' hall hv
    | agg l => obtain ⟨cs, rfl, hc⟩ := hv; exact ⟨cs, rfl, deepS_spec (hp := hp) ext (fun x => deepX_spec hw 6 x) l hp' hall hc⟩
  | tup l => exact ur_ext ext hv
  | cond => exact hv.elim
  | junk => exact hv.elim
theorem deepA_spec (hw : WH w0 ρ hp w) : ∀ (l : List SV) (vs : List Value), All (deepA hp l).2.1 → (∀ id ∈ (deepA hp l).2.2, ownId hp id = true → id ∈ all) → ArgsRel ρ l vs → ArgsRel (ρ.frz w all) (deepA hp l).1 vs
  | [], [], _, _, _ => trivial
  | [], _ :: _, _, _, h => h.elim
  | _ :: _, [], _, _, h => h.elim
  | x :: r, v :: vs, hp', hall, h => by
    obtain ⟨hp1, hp2⟩ := all_append.1 (show All ((deepV hp x).2.1 ++ (deepA hp r).2.1) from hp')
    have hall' : ∀ id ∈ (deepV hp x).2.2 ++ (deepA hp r).2.2, ownId hp id = true → id ∈ all := hall
    exact ⟨deepV_spec hw x hp1 (fun id hi => hall' id (List.mem_append_left _ hi)) h.1, deepA_spec hw r vs hp2 (fun id hi => hall' id (List.mem_append_right _ hi)) h.2⟩
end
/-- All that is written is one's own. -/
def stOwn (hp : Heap) : Heap → Bool
  | [] => true
  | (id, _) :: r => ownId hp id && stOwn hp r
theorem stOwn_look {hp : Heap} : ∀ {st : Heap}, stOwn hp st = true → ∀ {id : Nat} {x : Ent}, look st id = some x → ownId hp id = true
  | [], _, id, x, h => by simp [look] at h
  | (j, y) :: r, hs, id, x, h => by
    simp only [stOwn, Bool.and_eq_true] at hs
    simp only [look] at h
    split at h
    · rename_i hj
      obtain rfl : j = id := by simpa using hj
      exact hs.1
    · exact stOwn_look hs.2 h
/-- A contract that takes rows of one's own whose cells are known, too. -/
def conZ (c : Con) : Con := fun hp fr args => match args with
  | .junk :: r => c hp fr (.junk :: r)
  | args => match c hp fr args with
    | some e => some e
    | none => (match deepA hp args with
      | (bs, ps, ids) => (match c (kills (keepOwn hp ids) ++ hp) fr bs with
        | some e => if stOwn (kills (keepOwn hp ids) ++ hp) e.st then some { e with vc := ps ++ e.vc, st := kills (keepOwn hp ids) ++ e.st } else none
        | none => none))
theorem conZ_ok {P : Program} {f : FuncId} {c : Con} (h : ConOK P f c) : ConOK P f (conZ c) := by
  refine ⟨h.enters, fun hp fr args e he hv w0 w ρ vs hw hn ha => ?_, fun hp fr caps e he => h.clo hp fr caps e he⟩
  unfold conZ at he
  split at he
  · exact h.calls hp fr _ e he hv w0 w ρ vs hw hn ha
  · split at he
    · rename_i e' he'
      obtain rfl := Option.some.inj he
      exact h.calls hp fr _ _ he' hv w0 w ρ vs hw hn ha
    · dsimp only at he
      split at he
      · rename_i e' he'
        split at he
        · rename_i hso
          obtain rfl := Option.some.inj he
          obtain ⟨hp1, hp2⟩ := all_append.1 hv
          have hw1 := wh_frz hw (deepA hp args).2.2
          have ha1 := deepA_spec hw args vs hp1 (all := keepOwn hp (deepA hp args).2.2) (fun id hi ho => keepOwn_mem.2 ⟨hi, ho⟩) ha
          refine (h.calls _ fr _ e' he' hp2 w0 w _ vs hw1 hn ha1).mono ?_
          rintro en w' ⟨ρ', v, rfl, g1, g2⟩
          refine ⟨ρ', v, rfl, g1, fr_comp hw.froz g2 (fun id x hx hs => ?_) _⟩
          have ho := stOwn_look hso hx
          unfold ownId at ho
          split at ho
          · rename_i y hy
            exact (erel_some (hw1.ents id y hy) ho hs).1.2
          · cases ho
        · cases he
      · cases he
end Go.Proofs.YtomodncooiddaaaDoor.Sx

namespace Go.Proofs.YtomodncooiddaaaDoor.Sx.Z
open Go.RowKit
def e0 : ByteArray := ByteArray.empty
theorem lt_one {i : Nat} {P : Nat → Prop} (h0 : P 0) (h : i < 1) : P i := by
  obtain rfl : i = 0 := by omega
  exact h0
theorem cpE_nil : cpE (.l []) = .l [] := by rw [cpE_eq]; rfl
theorem cpB_nil : cpB (.l []) = .l [] := by rw [cpB_eq]; rfl
theorem kS_nil : kS (.l []) := (kS_iff _).2 ⟨Nat.zero_le _, fun i h => absurd h (Nat.not_lt_zero i)⟩
theorem bS_nil : bS (.l []) := (bS_iff _).2 ⟨Nat.zero_le _, fun i h => absurd h (Nat.not_lt_zero i)⟩
theorem sOK_nil : sOK (.l []) := (sOK_iff _).2 ⟨Nat.zero_le _, fun i h => absurd h (Nat.not_lt_zero i)⟩
theorem amOK_nil : amOK (.l []) := ⟨Nat.zero_le _, fun i h => absurd h (Nat.not_lt_zero i)⟩
theorem bF_nil : bF (.l []) := (bF_iff _).2 ⟨Nat.zero_le _, fun i h => absurd h (Nat.not_lt_zero i)⟩
theorem amF_nil : amF (.l []) := ⟨Nat.zero_le _, fun i h => absurd h (Nat.not_lt_zero i)⟩
theorem kF_nil (i : Nat) : kF (.l []) i := by rw [kF, dif_neg (show ¬ i < (D.l []).len from Nat.not_lt_zero i)]; trivial
theorem wsL_wsR (l : List ByteArray) : wsL (wsR l) (wsR l).len = l := by
  rw [wsR_len]
  unfold wsL
  apply List.ext_getElem
  · rw [List.length_map, List.length_range]
  · intro i h1 h2
    rw [List.getElem_map, List.getElem_range, wsR_el h2]
theorem cat_wsR {l : List ByteArray} (h : l.length ≤ 2001) : cat (.l []) l = wsR l := by
  show D.l ((([] : List (List D)) ++ l.map sR).take 2001) = _
  rw [List.nil_append, List.take_of_length_le (by rw [List.length_map]; exact h)]; rfl
def tE1 : D := .l [[.i 2, .i 0, .s ⟨#[97]⟩, .l []], [.i 1, .i 1, .s ByteArray.empty, .l []]]
def tE2 : D := .l [[.i 4, .i 0, .s ByteArray.empty, tE1], [.i 1, .i 2, .s ByteArray.empty, .l []]]
def tB : D := .l [[.i 1, .s ⟨#[120]⟩, .s ByteArray.empty, .i 6, .i 0, .s ByteArray.empty, tE2, .i 0, .i 0, .i 0, .s ByteArray.empty, .l [], .i 0, .i 0, .s ByteArray.empty, .l [], .l [], .l [], .l []]]
def tP : D := .l [[.s ⟨#[112]⟩, .l [], tB]]
theorem cpE_1 : cpE tE1 = tE1 := by
  rw [cpE_eq]
  show D.l [[.i 2, .i 0, .s ⟨#[97]⟩, cpE (.l [])], [.i 1, .i 1, .s ByteArray.empty, cpE (.l [])]] = _
  rw [cpE_nil]; rfl
theorem cpE_2 : cpE tE2 = tE2 := by
  rw [cpE_eq]
  show D.l [[.i 4, .i 0, .s ByteArray.empty, cpE tE1], [.i 1, .i 2, .s ByteArray.empty, cpE (.l [])]] = _
  rw [cpE_nil, cpE_1]; rfl
theorem cpB_t : cpB tB = tB := by
  rw [cpB_eq]
  show D.l [[.i 1, .s ⟨#[120]⟩, .s ByteArray.empty, .i 6, .i 0, .s ByteArray.empty, cpE tE2, .i 0, .i 0, .i 0, .s ByteArray.empty, cpE (.l []), .i 0, .i 0, .s ByteArray.empty, cpE (.l []), cpB (.l []), cpB (.l []), .l []]] = _
  rw [cpE_nil, cpE_2, cpB_nil]; rfl
theorem cpP_t : cpP tP = tP := by
  show D.l [[.s ⟨#[112]⟩, .l [], cpB tB]] = _
  rw [cpB_t]; rfl
theorem kS_1 : kS tE1 := (kS_iff _).2 ⟨by decide, fun i h => by
  have : i < 2 := h
  obtain rfl | rfl : i = 0 ∨ i = 1 := by omega
  · exact kS_nil
  · exact kS_nil⟩
theorem kS_2 : kS tE2 := (kS_iff _).2 ⟨by decide, fun i h => by
  have : i < 2 := h
  obtain rfl | rfl : i = 0 ∨ i = 1 := by omega
  · exact kS_1
  · exact kS_nil⟩
theorem bS_t : bS tB := (bS_iff _).2 ⟨by decide, fun i h => lt_one (P := fun i => kS (tB.el i 6) ∧ kS (tB.el i 11) ∧ kS (tB.el i 15) ∧ bS (tB.el i 16) ∧ bS (tB.el i 17) ∧ (tB.el i 18).len ≤ 1000000 ∧ ∀ j, j < (tB.el i 18).len → bS ((tB.el i 18).el j 2)) ⟨kS_2, kS_nil, kS_nil, bS_nil, bS_nil, Nat.zero_le _, fun j hj => absurd hj (Nat.not_lt_zero j)⟩ h⟩
theorem SyS_t : SyS (.l []) (.l []) tP := ⟨Nat.zero_le _, fun i h => absurd h (Nat.not_lt_zero i), Nat.zero_le _, fun i h => absurd h (Nat.not_lt_zero i), by decide, fun i h => lt_one (P := fun i => (tP.el i 1).len ≤ 1000000) (Nat.zero_le _) h, fun i h => lt_one (P := fun i => bS (tP.el i 2)) bS_t h⟩
theorem sOK_t : sOK tB := (sOK_iff _).2 ⟨by decide, fun i h => lt_one (P := fun i => sOK (tB.el i 16) ∧ sOK (tB.el i 17) ∧ amOK (tB.el i 18)) ⟨sOK_nil, sOK_nil, amOK_nil⟩ h⟩
theorem SyOK_t : SyOK (.l []) (.l []) tP := ⟨Nat.zero_le _, fun i h => absurd h (Nat.not_lt_zero i), Nat.zero_le _, fun i h => absurd h (Nat.not_lt_zero i), by decide, fun i h => lt_one (P := fun i => (tP.el i 1).len ≤ 1000000000000) (Nat.zero_le _) h, fun i h => lt_one (P := fun i => sOK (tP.el i 2)) sOK_t h⟩
theorem xF_1a : kF tE1 0 := by
  rw [kF_eq (by decide)]
  show xF 2 0 ⟨#[97]⟩ (.l [])
  exact ⟨fun h => absurd h (by decide), fun _ => (by decide), fun h => absurd h (by decide), fun h => absurd h (by decide)⟩
theorem xF_1b : kF tE1 1 := by
  rw [kF_eq (by decide)]
  show xF 1 1 ByteArray.empty (.l [])
  exact ⟨fun _ => ⟨by decide, by decide⟩, fun h => absurd h (by decide), fun h => absurd h (by decide), fun h => absurd h (by decide)⟩
theorem xF_2a : kF tE2 0 := by
  rw [kF_eq (by decide)]
  show xF 4 0 ByteArray.empty tE1
  exact ⟨fun h => absurd h (by decide), fun h => absurd h (by decide), fun h => absurd h (by decide), fun _ => ⟨rfl, xF_1a, xF_1b⟩⟩
theorem xF_2b : kF tE2 1 := by
  rw [kF_eq (by decide)]
  show xF 1 2 ByteArray.empty (.l [])
  exact ⟨fun _ => ⟨by decide, by decide⟩, fun h => absurd h (by decide), fun h => absurd h (by decide), fun h => absurd h (by decide)⟩
theorem xF_t : xF 6 0 ByteArray.empty tE2 := ⟨fun h => absurd h (by decide), fun h => absurd h (by decide), fun h => absurd h (by decide), fun _ => ⟨rfl, xF_2a, xF_2b⟩⟩
theorem bF_t : bF tB := (bF_iff _).2 ⟨by decide, fun i h => lt_one (P := stFE tB) (show stFF 1 ⟨#[120]⟩ ByteArray.empty (xF 6 0 ByteArray.empty tE2) _ _ _ _ from ⟨fun _ => ⟨(by unfold sz; decide), xF_t⟩, fun h => absurd h (by decide), fun h => absurd h (by decide), fun h => absurd h (by decide), fun h => absurd h (by decide), fun h => absurd h (by decide), fun h => absurd h (by decide)⟩) h⟩
theorem SyF_t : SyF (.l []) (.l []) tP := ⟨fun i h => absurd h (Nat.not_lt_zero i), fun i h => absurd h (Nat.not_lt_zero i), fun i h => lt_one (P := fun i => prF (tP.el i 0).toS (tP.el i 1) (tP.el i 2)) ⟨(by unfold sz; decide), Nat.zero_le _, fun i h => absurd h (Nat.not_lt_zero i), bF_t⟩ h⟩
theorem nm_x : nmB ⟨#[120]⟩ = true := by decide +kernel
theorem nm_a : nmB ⟨#[97]⟩ = true := by decide +kernel
theorem nm_p : nmB ⟨#[112]⟩ = true := by decide +kernel
theorem aE_1a : aE tE1 0 = true := by
  rw [aE_eq (by decide)]
  show nmB ⟨#[97]⟩ = true
  exact nm_a
theorem aE_1b : aE tE1 1 = true := by
  rw [aE_eq (by decide)]
  show nuB 1 = true
  decide
theorem aE_2a : aE tE2 0 = true := by
  rw [aE_eq (by decide)]
  show (decide _ && aE tE1 0 && aE tE1 1) = true
  rw [aE_1a, aE_1b]; rfl
theorem aE_2b : aE tE2 1 = true := by
  rw [aE_eq (by decide)]
  show nuB 2 = true
  decide
theorem aX_t : aX 6 0 ByteArray.empty tE2 = true := by
  rw [aX_bin (by decide), aE_2a, aE_2b]; rfl
theorem bA_t : bA tB = true := by
  rw [bA_eq]
  show ((nmB ⟨#[120]⟩ && aX 6 0 ByteArray.empty tE2) && true) = true
  rw [nm_x, aX_t]; rfl
theorem syB_t : syB (.l []) (.l []) tP = true := by
  show (true && (true && (((nmB ⟨#[112]⟩ && true) && bA tB) && true))) = true
  rw [nm_p, bA_t]; rfl
theorem kN_1 (i : Nat) (h : i < 2) (d : Int) (hd : d ≤ 24) : kN tE1 i d = true := by
  rw [kN_eq h]
  obtain rfl | rfl : i = 0 ∨ i = 1 := by omega
  · show xN 2 (.l []) d = true
    unfold xN xNb
    rw [if_neg (by omega), if_neg (by decide), if_neg (by decide)]
  · show xN 1 (.l []) d = true
    unfold xN xNb
    rw [if_neg (by omega), if_neg (by decide), if_neg (by decide)]
theorem xN_t : xN 6 tE2 0 = true := by
  show (kN tE2 0 1 && kN tE2 1 0) = true
  rw [kN_eq (by decide), kN_eq (by decide)]
  show ((kN tE1 0 1 && kN tE1 1 1) && true) = true
  rw [kN_1 0 (by decide) _ (by decide), kN_1 1 (by decide) _ (by decide)]; rfl
theorem stNE_t : stNE tB 0 0 = true := by
  unfold stNE stN stNF
  rw [if_pos (show (tB.el 0 0).toI = 1 ∨ (tB.el 0 0).toI = 4 from Or.inl rfl)]
  exact xN_t
theorem bN_t : bN tB 0 = true := by
  rw [bN_eq]
  exact allB_yes fun i h => lt_one (P := fun i => stNE tB 0 i = true) stNE_t h
theorem syN_t : syN tP = true := allB_yes fun i h => lt_one (P := fun i => prNE tP i = true) bN_t h
theorem it1 : itW 1 = ⟨#[49]⟩ := by decide +kernel
theorem it2 : itW 2 = ⟨#[50]⟩ := by decide +kernel
theorem xW_t : xW 6 0 ByteArray.empty tE2 = [⟨#[40]⟩, ⟨#[97]⟩, ⟨#[43]⟩, ⟨#[49]⟩, ⟨#[41]⟩, ⟨#[42]⟩, ⟨#[50]⟩] := by
  show (⟨#[40]⟩ :: (kW tE2 0 ++ [⟨#[41]⟩])) ++ (⟨#[42]⟩ :: kW tE2 1) = _
  rw [kW_eq (by decide), kW_eq (by decide)]
  show (⟨#[40]⟩ :: ((kW tE1 0 ++ (⟨#[43]⟩ :: kW tE1 1)) ++ [⟨#[41]⟩])) ++ (⟨#[42]⟩ :: [itW 2]) = _
  rw [kW_eq (by decide), kW_eq (by decide)]
  show (⟨#[40]⟩ :: (([⟨#[97]⟩] ++ (⟨#[43]⟩ :: [itW 1])) ++ [⟨#[41]⟩])) ++ (⟨#[42]⟩ :: [itW 2]) = _
  rw [it1, it2]; rfl
def tW : List ByteArray := [⟨#[112, 114, 111, 99]⟩, ⟨#[112]⟩, ⟨#[123]⟩, ⟨#[120]⟩, ⟨#[61]⟩, ⟨#[40]⟩, ⟨#[97]⟩, ⟨#[43]⟩, ⟨#[49]⟩, ⟨#[41]⟩, ⟨#[42]⟩, ⟨#[50]⟩, ⟨#[59]⟩, ⟨#[125]⟩]
theorem syW_t : syW (.l []) (.l []) tP = tW := by
  show [⟨#[112, 114, 111, 99]⟩, ⟨#[112]⟩, ⟨#[123]⟩] ++ ([] ++ (bW tB ++ [⟨#[125]⟩])) ++ [] = _
  rw [bW_eq]
  show [⟨#[112, 114, 111, 99]⟩, ⟨#[112]⟩, ⟨#[123]⟩] ++ ([] ++ (((⟨#[120]⟩ :: ⟨#[61]⟩ :: (xW 6 0 ByteArray.empty tE2 ++ [⟨#[59]⟩])) ++ []) ++ [⟨#[125]⟩])) ++ [] = _
  rw [xW_t]; rfl
theorem wdD_t : wdD (.l []) (.l []) tP = wsR tW := by
  unfold wdD
  rw [syW_t, cat_wsR (by decide)]
theorem wdE_t : wdE (.l []) (.l []) tP = 0 := wd0 syB_t syN_t (by rw [wdD_t, wsR_len]; decide)
theorem wdA_t : wdA (.l []) (.l []) tP = wsR tW := (if_pos wdE_t).trans wdD_t
theorem txS_t : (txS (.l []) (.l []) tP).toList = (ByteArray.mk #[112, 114, 111, 99, 32, 112, 32, 123, 32, 120, 32, 61, 32, 40, 32, 97, 32, 43, 32, 49, 32, 41, 32, 42, 32, 50, 32, 59, 32, 125, 32]).toList := by
  unfold txS
  rw [if_pos wdE_t, wdA_t, wsL_wsR]
  decide +kernel
theorem tW_sz : ∀ a ∈ tW, a.size ≤ 1000000000 := by decide +kernel
theorem wa_t (i : Nat) (h : i < (wdA (cpC (.l [])) (cpU (.l [])) (cpP tP)).len) : ((wdA (cpC (.l [])) (cpU (.l [])) (cpP tP)).el i 0).toS.size ≤ 1000000000 := by
  rw [cpP_t] at h ⊢
  have h : i < (wdA (.l []) (.l []) tP).len := h
  show ((wdA (.l []) (.l []) tP).el i 0).toS.size ≤ 1000000000
  rw [wdA_t] at h ⊢
  rw [wsR_len] at h
  rw [wsR_el h]
  exact tW_sz _ (List.getElem_mem h)
theorem we_t : wdE (cpC (.l [])) (cpU (.l [])) (cpP tP) = 0 := by
  rw [cpP_t]
  exact wdE_t
theorem wt_t : (txS (cpC (.l [])) (cpU (.l [])) (cpP tP)).toList = (ByteArray.mk #[112, 114, 111, 99, 32, 112, 32, 123, 32, 120, 32, 61, 32, 40, 32, 97, 32, 43, 32, 49, 32, 41, 32, 42, 32, 50, 32, 59, 32, 125, 32]).toList := by
  rw [cpP_t]
  exact txS_t
theorem fin_t {x : Int} {a b : List UInt8} (h : x = 0) (h2 : a = b) : (x == 0 && (a == b)) = true := by rw [h, h2]; simp
noncomputable def txtsS : FSpec := fun ds _ => match ds with
  | [] => some { val := .one (.sc (.bool (.lit true))), vc := [] }
  | _ => none
noncomputable def txtsC : Con := con [] txtsS
theorem txts_ok : ConOK Tryd.prog 10 txtsC := by
  refine fn_ob tt_ok mixed Tryd.func10 rfl (fun _ _ => by kernel_rfl) (A := fun ds => ⟨fun _ => Cons.of [(9, (conZ ycpC)), (12, txC)], fun _ => none, fun _ => none⟩) (fun _ _ => (cons_cons (conZ_ok ycp_ok) (cons_cons tx_ok cons_nil))) (by kernel_rfl) ?_
  intro ds fr
  unfold txtsS
  split
  · skip
    refine kmp (q := (0 : Nat) + (2 : Nat) ≤
 (D.l [[D.i (2 : Int), D.i (0 : Int), D.s (ByteArray.mk #[(97 : UInt8)]), D.l []], [D.i (1 : Int), D.i (1 : Int), D.s ByteArray.empty, D.l []]]).len ∧
 (0 : Nat) + (2 : Nat) ≤
 (D.l
 [[D.i (4 : Int), D.i (0 : Int), D.s ByteArray.empty,
 (D.l [[D.i (2 : Int), D.i (0 : Int), D.s (ByteArray.mk #[(97 : UInt8)]), D.l []], [D.i (1 : Int), D.i (1 : Int), D.s ByteArray.empty, D.l []]]).sub
 ((0 : Nat)) ((0 : Nat) + (2 : Nat))],
 [D.i (1 : Int), D.i (2 : Int), D.s ByteArray.empty, D.l []]]).len ∧
 (0 : Nat) + (1 : Nat) ≤
 (D.l
 [[D.i (1 : Int), D.s (ByteArray.mk #[(120 : UInt8)]), D.s ByteArray.empty, D.i (6 : Int), D.i (0 : Int), D.s ByteArray.empty,
 (D.l
 [[D.i (4 : Int), D.i (0 : Int), D.s ByteArray.empty,
 (D.l
 [[D.i (2 : Int), D.i (0 : Int), D.s (ByteArray.mk #[(97 : UInt8)]), D.l []],
 [D.i (1 : Int), D.i (1 : Int), D.s ByteArray.empty, D.l []]]).sub
 ((0 : Nat)) ((0 : Nat) + (2 : Nat))],
 [D.i (1 : Int), D.i (2 : Int), D.s ByteArray.empty, D.l []]]).sub
 ((0 : Nat)) ((0 : Nat) + (2 : Nat)),
 D.i (0 : Int), D.i (0 : Int), D.i (0 : Int), D.s ByteArray.empty, D.l [], D.i (0 : Int), D.i (0 : Int), D.s ByteArray.empty, D.l [], D.l [],
 D.l [], D.l []]]).len ∧
 SyS (D.l []) (D.l [])
 (D.l
 [[D.s (ByteArray.mk #[(112 : UInt8)]), D.l [],
 (D.l
 [[D.i (1 : Int), D.s (ByteArray.mk #[(120 : UInt8)]), D.s ByteArray.empty, D.i (6 : Int), D.i (0 : Int), D.s ByteArray.empty,
 (D.l
 [[D.i (4 : Int), D.i (0 : Int), D.s ByteArray.empty,
 (D.l
 [[D.i (2 : Int), D.i (0 : Int), D.s (ByteArray.mk #[(97 : UInt8)]), D.l []],
 [D.i (1 : Int), D.i (1 : Int), D.s ByteArray.empty, D.l []]]).sub
 ((0 : Nat)) ((0 : Nat) + (2 : Nat))],
 [D.i (1 : Int), D.i (2 : Int), D.s ByteArray.empty, D.l []]]).sub
 ((0 : Nat)) ((0 : Nat) + (2 : Nat)),
 D.i (0 : Int), D.i (0 : Int), D.i (0 : Int), D.s ByteArray.empty, D.l [], D.i (0 : Int), D.i (0 : Int), D.s ByteArray.empty, D.l [],
 D.l [], D.l [], D.l []]]).sub
 (0 : Nat) ((0 : Nat) + (1 : Nat))]]) ∧
 SyOK (cpC (D.l [])) (cpU (D.l []))
 (cpP
 (D.l
 [[D.s (ByteArray.mk #[(112 : UInt8)]), D.l [],
 (D.l
 [[D.i (1 : Int), D.s (ByteArray.mk #[(120 : UInt8)]), D.s ByteArray.empty, D.i (6 : Int), D.i (0 : Int), D.s ByteArray.empty,
 (D.l
 [[D.i (4 : Int), D.i (0 : Int), D.s ByteArray.empty,
 (D.l
 [[D.i (2 : Int), D.i (0 : Int), D.s (ByteArray.mk #[(97 : UInt8)]), D.l []],
 [D.i (1 : Int), D.i (1 : Int), D.s ByteArray.empty, D.l []]]).sub
 ((0 : Nat)) ((0 : Nat) + (2 : Nat))],
 [D.i (1 : Int), D.i (2 : Int), D.s ByteArray.empty, D.l []]]).sub
 ((0 : Nat)) ((0 : Nat) + (2 : Nat)),
 D.i (0 : Int), D.i (0 : Int), D.i (0 : Int), D.s ByteArray.empty, D.l [], D.i (0 : Int), D.i (0 : Int), D.s ByteArray.empty,
 D.l [], D.l [], D.l [], D.l []]]).sub
 (0 : Nat) ((0 : Nat) + (1 : Nat))]])) ∧
 (syB (cpC (D.l [])) (cpU (D.l []))
 (cpP
 (D.l
 [[D.s (ByteArray.mk #[(112 : UInt8)]), D.l [],
 (D.l
 [[D.i (1 : Int), D.s (ByteArray.mk #[(120 : UInt8)]), D.s ByteArray.empty, D.i (6 : Int), D.i (0 : Int), D.s ByteArray.empty,
 (D.l
 [[D.i (4 : Int), D.i (0 : Int), D.s ByteArray.empty,
 (D.l
 [[D.i (2 : Int), D.i (0 : Int), D.s (ByteArray.mk #[(97 : UInt8)]), D.l []],
 [D.i (1 : Int), D.i (1 : Int), D.s ByteArray.empty, D.l []]]).sub
 ((0 : Nat)) ((0 : Nat) + (2 : Nat))],
 [D.i (1 : Int), D.i (2 : Int), D.s ByteArray.empty, D.l []]]).sub
 ((0 : Nat)) ((0 : Nat) + (2 : Nat)),
 D.i (0 : Int), D.i (0 : Int), D.i (0 : Int), D.s ByteArray.empty, D.l [], D.i (0 : Int), D.i (0 : Int), D.s ByteArray.empty,
 D.l [], D.l [], D.l [], D.l []]]).sub
 (0 : Nat) ((0 : Nat) + (1 : Nat))]])) =
 true →
 syN
 (cpP
 (D.l
 [[D.s (ByteArray.mk #[(112 : UInt8)]), D.l [],
 (D.l
 [[D.i (1 : Int), D.s (ByteArray.mk #[(120 : UInt8)]), D.s ByteArray.empty, D.i (6 : Int), D.i (0 : Int), D.s ByteArray.empty,
 (D.l
 [[D.i (4 : Int), D.i (0 : Int), D.s ByteArray.empty,
 (D.l
 [[D.i (2 : Int), D.i (0 : Int), D.s (ByteArray.mk #[(97 : UInt8)]), D.l []],
 [D.i (1 : Int), D.i (1 : Int), D.s ByteArray.empty, D.l []]]).sub
 ((0 : Nat)) ((0 : Nat) + (2 : Nat))],
 [D.i (1 : Int), D.i (2 : Int), D.s ByteArray.empty, D.l []]]).sub
 ((0 : Nat)) ((0 : Nat) + (2 : Nat)),
 D.i (0 : Int), D.i (0 : Int), D.i (0 : Int), D.s ByteArray.empty, D.l [], D.i (0 : Int), D.i (0 : Int),
 D.s ByteArray.empty, D.l [], D.l [], D.l [], D.l []]]).sub
 (0 : Nat) ((0 : Nat) + (1 : Nat))]])) =
 true →
 SyF (cpC (D.l [])) (cpU (D.l []))
 (cpP
 (D.l
 [[D.s (ByteArray.mk #[(112 : UInt8)]), D.l [],
 (D.l
 [[D.i (1 : Int), D.s (ByteArray.mk #[(120 : UInt8)]), D.s ByteArray.empty, D.i (6 : Int), D.i (0 : Int), D.s ByteArray.empty,
 (D.l
 [[D.i (4 : Int), D.i (0 : Int), D.s ByteArray.empty,
 (D.l
 [[D.i (2 : Int), D.i (0 : Int), D.s (ByteArray.mk #[(97 : UInt8)]), D.l []],
 [D.i (1 : Int), D.i (1 : Int), D.s ByteArray.empty, D.l []]]).sub
 ((0 : Nat)) ((0 : Nat) + (2 : Nat))],
 [D.i (1 : Int), D.i (2 : Int), D.s ByteArray.empty, D.l []]]).sub
 ((0 : Nat)) ((0 : Nat) + (2 : Nat)),
 D.i (0 : Int), D.i (0 : Int), D.i (0 : Int), D.s ByteArray.empty, D.l [], D.i (0 : Int), D.i (0 : Int), D.s ByteArray.empty,
 D.l [], D.l [], D.l [], D.l []]]).sub
 (0 : Nat) ((0 : Nat) + (1 : Nat))]]))) ∧
 (∀ (i : Nat),
 i <
 (wdA (cpC (D.l [])) (cpU (D.l []))
 (cpP
 (D.l
 [[D.s (ByteArray.mk #[(112 : UInt8)]), D.l [],
 (D.l
 [[D.i (1 : Int), D.s (ByteArray.mk #[(120 : UInt8)]), D.s ByteArray.empty, D.i (6 : Int), D.i (0 : Int), D.s ByteArray.empty,
 (D.l
 [[D.i (4 : Int), D.i (0 : Int), D.s ByteArray.empty,
 (D.l
 [[D.i (2 : Int), D.i (0 : Int), D.s (ByteArray.mk #[(97 : UInt8)]), D.l []],
 [D.i (1 : Int), D.i (1 : Int), D.s ByteArray.empty, D.l []]]).sub
 ((0 : Nat)) ((0 : Nat) + (2 : Nat))],
 [D.i (1 : Int), D.i (2 : Int), D.s ByteArray.empty, D.l []]]).sub
 ((0 : Nat)) ((0 : Nat) + (2 : Nat)),
 D.i (0 : Int), D.i (0 : Int), D.i (0 : Int), D.s ByteArray.empty, D.l [], D.i (0 : Int), D.i (0 : Int),
 D.s ByteArray.empty, D.l [], D.l [], D.l [], D.l []]]).sub
 (0 : Nat) ((0 : Nat) + (1 : Nat))]]))).len →
 ((wdA (cpC (D.l [])) (cpU (D.l []))
 (cpP
 (D.l
 [[D.s (ByteArray.mk #[(112 : UInt8)]), D.l [],
 (D.l
 [[D.i (1 : Int), D.s (ByteArray.mk #[(120 : UInt8)]), D.s ByteArray.empty, D.i (6 : Int), D.i (0 : Int),
 D.s ByteArray.empty,
 (D.l
 [[D.i (4 : Int), D.i (0 : Int), D.s ByteArray.empty,
 (D.l
 [[D.i (2 : Int), D.i (0 : Int), D.s (ByteArray.mk #[(97 : UInt8)]), D.l []],
 [D.i (1 : Int), D.i (1 : Int), D.s ByteArray.empty, D.l []]]).sub
 ((0 : Nat)) ((0 : Nat) + (2 : Nat))],
 [D.i (1 : Int), D.i (2 : Int), D.s ByteArray.empty, D.l []]]).sub
 ((0 : Nat)) ((0 : Nat) + (2 : Nat)),
 D.i (0 : Int), D.i (0 : Int), D.i (0 : Int), D.s ByteArray.empty, D.l [], D.i (0 : Int), D.i (0 : Int),
 D.s ByteArray.empty, D.l [], D.l [], D.l [], D.l []]]).sub
 (0 : Nat) ((0 : Nat) + (1 : Nat))]]))).el
 i (0 : Nat)).toS.size ≤
 (1000000000 : Nat)) ∧
 (wdE (cpC (D.l [])) (cpU (D.l []))
 (cpP
 (D.l
 [[D.s (ByteArray.mk #[(112 : UInt8)]), D.l [],
 (D.l
 [[D.i (1 : Int), D.s (ByteArray.mk #[(120 : UInt8)]), D.s ByteArray.empty, D.i (6 : Int), D.i (0 : Int), D.s ByteArray.empty,
 (D.l
 [[D.i (4 : Int), D.i (0 : Int), D.s ByteArray.empty,
 (D.l
 [[D.i (2 : Int), D.i (0 : Int), D.s (ByteArray.mk #[(97 : UInt8)]), D.l []],
 [D.i (1 : Int), D.i (1 : Int), D.s ByteArray.empty, D.l []]]).sub
 ((0 : Nat)) ((0 : Nat) + (2 : Nat))],
 [D.i (1 : Int), D.i (2 : Int), D.s ByteArray.empty, D.l []]]).sub
 ((0 : Nat)) ((0 : Nat) + (2 : Nat)),
 D.i (0 : Int), D.i (0 : Int), D.i (0 : Int), D.s ByteArray.empty, D.l [], D.i (0 : Int), D.i (0 : Int),
 D.s ByteArray.empty, D.l [], D.l [], D.l [], D.l []]]).sub
 (0 : Nat) ((0 : Nat) + (1 : Nat))]])) ==
 (0 : Int) &&
 (txS (cpC (D.l [])) (cpU (D.l []))
 (cpP
 (D.l
 [[D.s (ByteArray.mk #[(112 : UInt8)]), D.l [],
 (D.l
 [[D.i (1 : Int), D.s (ByteArray.mk #[(120 : UInt8)]), D.s ByteArray.empty, D.i (6 : Int), D.i (0 : Int), D.s ByteArray.empty,
 (D.l
 [[D.i (4 : Int), D.i (0 : Int), D.s ByteArray.empty,
 (D.l
 [[D.i (2 : Int), D.i (0 : Int), D.s (ByteArray.mk #[(97 : UInt8)]), D.l []],
 [D.i (1 : Int), D.i (1 : Int), D.s ByteArray.empty, D.l []]]).sub
 ((0 : Nat)) ((0 : Nat) + (2 : Nat))],
 [D.i (1 : Int), D.i (2 : Int), D.s ByteArray.empty, D.l []]]).sub
 ((0 : Nat)) ((0 : Nat) + (2 : Nat)),
 D.i (0 : Int), D.i (0 : Int), D.i (0 : Int), D.s ByteArray.empty, D.l [], D.i (0 : Int), D.i (0 : Int),
 D.s ByteArray.empty, D.l [], D.l [], D.l [], D.l []]]).sub
 (0 : Nat) ((0 : Nat) + (1 : Nat))]]))).toList ==
 (ByteArray.mk #[(112 : UInt8), (114 : UInt8), (111 : UInt8), (99 : UInt8), (32 : UInt8), (112 : UInt8), (32 : UInt8), (123 : UInt8), (32 : UInt8), (120 : UInt8), (32 : UInt8), (61 : UInt8), (32 : UInt8), (40 : UInt8), (32 : UInt8), (97 : UInt8), (32 : UInt8), (43 : UInt8), (32 : UInt8), (49 : UInt8), (32 : UInt8), (41 : UInt8), (32 : UInt8), (42 : UInt8), (32 : UInt8), (50 : UInt8), (32 : UInt8), (59 : UInt8), (32 : UInt8), (125 : UInt8), (32 : UInt8)]).toList) =
 true) (by kernel_rfl) ?_
    have hcp : cpP tP = tP := cpP_t
    refine ⟨by decide, by decide, by decide, SyS_t, ?_, fun _ _ => ?_, wa_t, fin_t we_t wt_t⟩
    · show SyOK (.l []) (.l []) (cpP tP)
      rw [hcp]; exact SyOK_t
    · show SyF (.l []) (.l []) (cpP tP)
      rw [hcp]; exact SyF_t
  · trivial
end Go.Proofs.YtomodncooiddaaaDoor.Sx.Z

namespace Go.Proofs.YtomodncooiddaaaDoor.Sx.Z
open Go.RowKit
def m4 (a : Int) : Nat := (IntKind.u64.wrap a).toNat % 4
def cEm (i : Nat) : List D := [.s ⟨#[99]⟩, .i ((i : Int).tmod 3), .i (i : Int), .s ⟨#[112]⟩, .s ⟨#[113]⟩, .l [[.s ⟨#[97]⟩]]]
def rEm (i : Nat) : List D := [.s ⟨#[99]⟩, .l [[.i (i : Int), .s ⟨#[97]⟩, .i 0]]]
def pEm (_ : Nat) : List D := [.s ⟨#[112]⟩, .l [], .l []]
theorem m4_le (a : Int) : m4 a ≤ 3 := by unfold m4; omega
theorem m4_eq (a : Int) : IntKind.i64.wrap ((IntKind.u64.wrap a).tmod 4) = (m4 a : Int) := by
  have h0 : 0 ≤ IntKind.u64.wrap a := by rw [IntKind.wrap_u64]; omega
  have e : (IntKind.u64.wrap a).tmod 4 = (m4 a : Int) := by
    rw [Int.tmod_eq_emod_of_nonneg h0]
    unfold m4
    omega
  have := m4_le a
  rw [e, IntWalk.i64_in _ (by omega)]
theorem cpTo_el {n i j : Nat} {f : Nat → List D} (h : i < n) : (cpTo n f).el i j = (f i).getD j (.i 0) := by
  show (((List.range n).map f).getD i []).getD j (.i 0) = _
  rw [List.getD_eq_getElem?_getD (l := (List.range n).map f), List.getElem?_map, List.getElem?_range h]; rfl
theorem cpTo_congr {n : Nat} {f g : Nat → List D} (h : ∀ i, i < n → f i = g i) : cpTo n f = cpTo n g := by
  unfold cpTo
  congr 1
  exact List.map_congr_left fun i hi => h i (List.mem_range.1 hi)
theorem catTo_const {n k : Nat} {f : Nat → List ByteArray} (h : ∀ i, i < n → (f i).length = k) : (catTo n f).length = n * k := by
  induction n with
  | zero => simp [catTo]
  | succ n ih =>
    rw [catTo_succ, List.length_append, ih fun i hi => h i (by omega), h n (by omega), Nat.add_mul]; omega
theorem cpC_m (n : Nat) : cpC (cpTo n cEm) = cpTo n cEm := by
  unfold cpC
  rw [cpTo_len]
  refine cpTo_congr fun i hi => ?_
  unfold chR
  simp only [cpTo_el hi]; rfl
theorem cpU_m (n : Nat) : cpU (cpTo n rEm) = cpTo n rEm := by
  unfold cpU
  rw [cpTo_len]
  refine cpTo_congr fun i hi => ?_
  unfold ruR
  simp only [cpTo_el hi]; rfl
theorem cpP_m (n : Nat) : cpP (cpTo n pEm) = cpTo n pEm := by
  unfold cpP
  rw [cpTo_len]
  refine cpTo_congr fun i hi => ?_
  unfold prR
  simp only [cpTo_el hi]
  show [D.s ⟨#[112]⟩, .l [], cpB (.l [])] = _
  rw [cpB_nil]; rfl
theorem SyS_m {n m p : Nat} (h1 : n ≤ 3) (h2 : m ≤ 3) (h3 : p ≤ 3) : SyS (cpTo n cEm) (cpTo m rEm) (cpTo p pEm) := by
  refine ⟨by rw [cpTo_len]; omega, fun i h => ?_, by rw [cpTo_len]; omega, fun i h => ?_, by rw [cpTo_len]; omega, fun i h => ?_, fun i h => ?_⟩ <;> rw [cpTo_len] at h <;> rw [cpTo_el h]
  · show 1 ≤ 1000000
    decide
  · show 1 ≤ 1000000
    decide
  · exact Nat.zero_le _
  · exact bS_nil
theorem SyOK_m {n m p : Nat} (h1 : n ≤ 3) (h2 : m ≤ 3) (h3 : p ≤ 3) : SyOK (cpTo n cEm) (cpTo m rEm) (cpTo p pEm) := by
  refine ⟨by rw [cpTo_len]; omega, fun i h => ?_, by rw [cpTo_len]; omega, fun i h => ?_, by rw [cpTo_len]; omega, fun i h => ?_, fun i h => ?_⟩ <;> rw [cpTo_len] at h <;> rw [cpTo_el h]
  · show 1 ≤ 1000000000000
    decide
  · show 1 ≤ 1000000000000
    decide
  · exact Nat.zero_le _
  · exact sOK_nil
theorem sz1 (c : UInt8) : sz ⟨#[c]⟩ := by show 1 ≤ 1000000000; decide
theorem SyF_m {n m p : Nat} (h1 : n ≤ 3) (h2 : m ≤ 3) (h3 : p ≤ 3) : SyF (cpTo n cEm) (cpTo m rEm) (cpTo p pEm) := by
  refine ⟨fun i h => ?_, fun i h => ?_, fun i h => ?_⟩ <;> rw [cpTo_len] at h <;> simp only [cpTo_el h]
  · exact ⟨sz1 _, (show -9223372036854775808 ≤ (i : Int) ∧ (i : Int) ≤ 9223372036854775807 by omega), sz1 _, sz1 _, (show 1 ≤ 1000000000000 by decide), fun j hj => lt_one (P := fun j => sz ((D.l [[.s ⟨#[97]⟩]]).el j 0).toS) (sz1 _) hj⟩
  · exact ⟨sz1 _, (show 1 ≤ 1000000000000 by decide), fun j hj => lt_one (P := fun j => sm ((D.l [[.i (i : Int), .s ⟨#[97]⟩, .i 0]]).el j 0).toI ∧ sz ((D.l [[.i (i : Int), .s ⟨#[97]⟩, .i 0]]).el j 1).toS ∧ sm ((D.l [[.i (i : Int), .s ⟨#[97]⟩, .i 0]]).el j 2).toI) ⟨(show -9223372036854775808 ≤ (i : Int) ∧ (i : Int) ≤ 9223372036854775807 by omega), sz1 _, (show -9223372036854775808 ≤ (0 : Int) ∧ (0 : Int) ≤ 9223372036854775807 by decide)⟩ hj⟩
  · exact ⟨sz1 _, Nat.zero_le _, fun j hj => absurd hj (Nat.not_lt_zero j), bF_nil⟩
theorem nm_c : nmB ⟨#[99]⟩ = true := by decide +kernel
theorem nm_q : nmB ⟨#[113]⟩ = true := by decide +kernel
theorem bA_nil : bA (.l []) = true := by rw [bA_eq]; rfl
theorem bN_nil (b : Int) : bN (.l []) b = true := by rw [bN_eq]; rfl
theorem bW_nil : bW (.l []) = [] := by rw [bW_eq]; rfl
theorem nuB_in {x : Int} (h : 0 ≤ x ∧ x < 100) : nuB x = true := by
  unfold nuB
  rw [decide_eq_true h.1, decide_eq_true (show x ≤ 2147483647 by omega)]; rfl
theorem syB_m {n m p : Nat} (h1 : n ≤ 3) (h2 : m ≤ 3) : syB (cpTo n cEm) (cpTo m rEm) (cpTo p pEm) = true := by
  unfold syB
  simp only [Bool.and_eq_true]
  refine ⟨allB_yes fun i h => ?_, allB_yes fun i h => ?_, allB_yes fun i h => ?_⟩ <;> rw [cpTo_len] at h
  · unfold chE
    simp only [cpTo_el h]
    show (nmB ⟨#[99]⟩ && decide ((i : Int).tmod 3 ≥ 0) && decide ((i : Int).tmod 3 ≤ 2) && nuB (i : Int) && nmB ⟨#[112]⟩ && nmB ⟨#[113]⟩ && true && (nmB ⟨#[97]⟩ && true)) = true
    have e : (i : Int).tmod 3 = (i : Int) % 3 := Int.tmod_eq_emod_of_nonneg (by omega)
    rw [nm_c, nm_p, nm_q, nm_a, nuB_in (by omega), e, decide_eq_true (show (i : Int) % 3 ≥ 0 by omega), decide_eq_true (show (i : Int) % 3 ≤ 2 by omega)]; rfl
  · unfold ruE
    simp only [cpTo_el h]
    show (((nuB (i : Int) && nmB ⟨#[97]⟩ && nuB 0) && true) && nmB ⟨#[99]⟩) = true
    rw [nm_c, nm_a, nuB_in (by omega), nuB_in (by omega)]; rfl
  · unfold prE
    simp only [cpTo_el h]
    show (nmB ⟨#[112]⟩ && true && bA (.l [])) = true
    rw [nm_p, bA_nil]; rfl
theorem syN_m (p : Nat) : syN (cpTo p pEm) = true := allB_yes fun i h => by
  rw [cpTo_len] at h
  unfold prNE
  rw [cpTo_el h]
  exact bN_nil 0
theorem syW_m (n m p : Nat) : (syW (cpTo n cEm) (cpTo m rEm) (cpTo p pEm)).length = 12 * n + 8 * m + 4 * p := by
  unfold syW
  rw [List.length_append, List.length_append, cpTo_len, cpTo_len, cpTo_len]
  have c1 : (catTo n (chWE (cpTo n cEm))).length = n * 12 := catTo_const fun i h => by
    unfold chWE; simp only [cpTo_el h]; rfl
  have c2 : (catTo m (ruWE (cpTo m rEm))).length = m * 8 := catTo_const fun i h => by
    unfold ruWE; simp only [cpTo_el h]; rfl
  have c3 : (catTo p (prWE (cpTo p pEm))).length = p * 4 := catTo_const fun i h => by
    unfold prWE
    simp only [cpTo_el h]
    show ([⟨#[112, 114, 111, 99]⟩, ⟨#[112]⟩, ⟨#[123]⟩] ++ ([] ++ (bW (.l []) ++ [⟨#[125]⟩])) : List ByteArray).length = 4
    rw [bW_nil]; rfl
  rw [c1, c2, c3]
  omega
theorem wd_m {n m p : Nat} (h1 : n ≤ 3) (h2 : m ≤ 3) (h3 : p ≤ 3) : wdE (cpTo n cEm) (cpTo m rEm) (cpTo p pEm) = 0 ∧ (wdA (cpTo n cEm) (cpTo m rEm) (cpTo p pEm)).len = 12 * n + 8 * m + 4 * p := by
  have el : (wdD (cpTo n cEm) (cpTo m rEm) (cpTo p pEm)).len = 12 * n + 8 * m + 4 * p := by
    unfold wdD
    rw [cat_len, syW_m]
    show min 2001 (0 + _) = _
    omega
  have e0 := wd0 (syB_m (p := p) h1 h2) (syN_m p) (ch := cpTo n cEm) (ru := cpTo m rEm) (by rw [el]; omega)
  exact ⟨e0, by rw [wdA, if_pos e0, el]⟩
end Go.Proofs.YtomodncooiddaaaDoor.Sx.Z

namespace Go.Proofs.YtomodncooiddaaaDoor.Sx
/-- The row that a struct's cell holds. -/
def cellIs (s : St) (t j : Nat) : Nat := match look s.hp (idOf s t) with | some (.own _ l) => (match l[j]? with | some (.c (.slice id _ _)) => id | _ => 0) | _ => 0
end Go.Proofs.YtomodncooiddaaaDoor.Sx
namespace Go.Proofs.YtomodncooiddaaaDoor.Sx.Z
open Go.RowKit
def m10 (a : Int) : Nat := (IntKind.u64.wrap a).toNat % 10
def kL (a : Int) : Nat := 660 + m10 a
def inR : List D := [.i 7, .s ⟨#[120]⟩, .s ByteArray.empty, .i 0, .i 0, .s ByteArray.empty, .l [], .i 0, .i 0, .i 0, .s ByteArray.empty, .l [], .i 0, .i 0, .s ByteArray.empty, .l [], .l [], .l [], .l []]
def inF (_ : Nat) : List D := inR
theorem m10_le (a : Int) : m10 a ≤ 9 := by unfold m10; omega
theorem kL_eq (a : Int) : IntKind.i64.wrap (660 + IntKind.i64.wrap ((IntKind.u64.wrap a).tmod 10)) = (kL a : Int) := by
  have h0 : 0 ≤ IntKind.u64.wrap a := by rw [IntKind.wrap_u64]; omega
  have e : (IntKind.u64.wrap a).tmod 10 = (m10 a : Int) := by
    rw [Int.tmod_eq_emod_of_nonneg h0]
    unfold m10
    omega
  have := m10_le a
  rw [e, IntWalk.i64_in (m10 a : Int) (by omega), IntWalk.i64_in _ (by omega)]
  unfold kL
  omega
theorem cpE_row (i : Nat) : (inF i).getD 6 (.i 0) = .l [] := rfl
theorem sub_all (k : Nat) (f : Nat → List D) : (cpTo k f).sub 0 (0 + k) = cpTo k f := by
  show D.l (List.drop 0 (List.take (0 + k) ((List.range k).map f))) = _
  rw [takeAll]; rfl
def pL (k : Nat) : D := .l [[.s ⟨#[112]⟩, .l [], cpTo k inF]]
theorem cpB_L (k : Nat) : cpB (cpTo k inF) = cpTo k inF := by
  rw [cpB_eq, cpTo_len]
  refine cpTo_congr fun i hi => ?_
  unfold rSt
  simp only [cpTo_el hi]
  show [D.i 7, D.s ⟨#[120]⟩, D.s ByteArray.empty, D.i 0, D.i 0, D.s ByteArray.empty, cpE (.l []), D.i 0, D.i 0, D.i 0, D.s ByteArray.empty, cpE (.l []), D.i 0, D.i 0, D.s ByteArray.empty, cpE (.l []), cpB (.l []), cpB (.l []), .l []] = _
  rw [cpE_nil, cpB_nil]; rfl
theorem cpP_L (k : Nat) : cpP (pL k) = pL k := by
  show D.l [[D.s ⟨#[112]⟩, .l [], cpB (cpTo k inF)]] = _
  rw [cpB_L]; rfl
theorem bS_L {k : Nat} (h : k ≤ 1000000) : bS (cpTo k inF) := (bS_iff _).2 ⟨by rw [cpTo_len]; exact h, fun i hi => by
  rw [cpTo_len] at hi
  simp only [cpTo_el hi]
  exact ⟨kS_nil, kS_nil, kS_nil, bS_nil, bS_nil, Nat.zero_le _, fun j hj => absurd hj (Nat.not_lt_zero j)⟩⟩
theorem SyS_L {k : Nat} (h : k ≤ 1000000) : SyS (.l []) (.l []) (pL k) := ⟨Nat.zero_le _, fun i h => absurd h (Nat.not_lt_zero i), Nat.zero_le _, fun i h => absurd h (Nat.not_lt_zero i), (show 1 ≤ 1000000 by decide), fun i hi => lt_one (P := fun i => ((pL k).el i 1).len ≤ 1000000) (Nat.zero_le _) hi, fun i hi => lt_one (P := fun i => bS ((pL k).el i 2)) (bS_L h) hi⟩
theorem sOK_L {k : Nat} (h : k ≤ 1000000) : sOK (cpTo k inF) := (sOK_iff _).2 ⟨by rw [cpTo_len]; omega, fun i hi => by
  rw [cpTo_len] at hi
  simp only [cpTo_el hi]
  exact ⟨sOK_nil, sOK_nil, amOK_nil⟩⟩
theorem SyOK_L {k : Nat} (h : k ≤ 1000000) : SyOK (.l []) (.l []) (pL k) := ⟨Nat.zero_le _, fun i h => absurd h (Nat.not_lt_zero i), Nat.zero_le _, fun i h => absurd h (Nat.not_lt_zero i), (show 1 ≤ 1000000000000 by decide), fun i hi => lt_one (P := fun i => ((pL k).el i 1).len ≤ 1000000000000) (Nat.zero_le _) hi, fun i hi => lt_one (P := fun i => sOK ((pL k).el i 2)) (sOK_L h) hi⟩
theorem stF7 {nm tg : ByteArray} {e c b el a : Prop} (h : sz nm) : stFF 7 nm tg e c b el a := ⟨fun h => absurd h (by decide), fun h => absurd h (by decide), fun h => absurd h (by decide), fun h => absurd h (by decide), fun h => absurd h (by decide), fun h => absurd h (by decide), fun _ => h⟩
theorem bF_L {k : Nat} (h : k ≤ 1000000) : bF (cpTo k inF) := (bF_iff _).2 ⟨by rw [cpTo_len]; omega, fun i hi => by
  rw [cpTo_len] at hi
  unfold stFE
  simp only [cpTo_el hi]
  exact stF7 (sz1 120)⟩
theorem SyF_L {k : Nat} (h : k ≤ 1000000) : SyF (.l []) (.l []) (pL k) := ⟨fun i h => absurd h (Nat.not_lt_zero i), fun i h => absurd h (Nat.not_lt_zero i), fun i hi => lt_one (P := fun i => prF ((pL k).el i 0).toS ((pL k).el i 1) ((pL k).el i 2)) ⟨sz1 _, Nat.zero_le _, fun j hj => absurd hj (Nat.not_lt_zero j), bF_L h⟩ hi⟩
theorem bA_L (k : Nat) : bA (cpTo k inF) = true := by
  rw [bA_eq, cpTo_len]
  refine allB_yes fun i hi => ?_
  unfold stE
  simp only [cpTo_el hi]
  show nmB ⟨#[120]⟩ = true
  exact nm_x
theorem bN_L (k : Nat) : bN (cpTo k inF) 0 = true := by
  rw [bN_eq, cpTo_len]
  refine allB_yes fun i hi => ?_
  unfold stNE
  simp only [cpTo_el hi]
  rfl
theorem bW_L (k : Nat) : (bW (cpTo k inF)).length = k * 3 := by
  rw [bW_eq, cpTo_len]
  refine catTo_const fun i hi => ?_
  unfold stWE
  simp only [cpTo_el hi]
  rfl
theorem syB_L (k : Nat) : syB (.l []) (.l []) (pL k) = true := by
  unfold syB
  simp only [Bool.and_eq_true]
  refine ⟨rfl, rfl, allB_yes fun i hi => lt_one (P := fun i => prE (pL k) i = true) ?_ hi⟩
  show (nmB ⟨#[112]⟩ && true && bA (cpTo k inF)) = true
  rw [nm_p, bA_L]; rfl
theorem syN_L (k : Nat) : syN (pL k) = true := allB_yes fun i hi => lt_one (P := fun i => prNE (pL k) i = true) (bN_L k) hi
theorem syW_L (k : Nat) : (syW (.l []) (.l []) (pL k)).length = 4 + 3 * k := by
  have e : syW (.l []) (.l []) (pL k) = ([⟨#[112, 114, 111, 99]⟩, ⟨#[112]⟩, ⟨#[123]⟩] ++ ([] ++ (bW (cpTo k inF) ++ [⟨#[125]⟩])) : List ByteArray) ++ [] := rfl
  rw [e]
  simp only [List.length_append, List.length_cons, List.length_nil, bW_L]
  omega
theorem wdD_L (k : Nat) : (wdD (.l []) (.l []) (pL k)).len = min 2001 (4 + 3 * k) := by
  unfold wdD
  rw [cat_len, syW_L]
  show min 2001 (0 + _) = _
  rw [Nat.zero_add]
theorem wd_L0 {k : Nat} (h : 4 + 3 * k ≤ 2000) : wdE (.l []) (.l []) (pL k) = 0 ∧ (wdA (.l []) (.l []) (pL k)).len = 4 + 3 * k := by
  have e0 := wd0 (syB_L k) (syN_L k) (ch := .l []) (ru := .l []) (by rw [wdD_L]; omega)
  refine ⟨e0, ?_⟩
  rw [wdA, if_pos e0, wdD_L]
  omega
theorem wd_L4 {k : Nat} (h : 2000 < 4 + 3 * k) : wdE (.l []) (.l []) (pL k) = 4 ∧ (wdA (.l []) (.l []) (pL k)).len = 0 := by
  have e0 := wd4 (syB_L k) (syN_L k) (ch := .l []) (ru := .l []) (by rw [wdD_L]; omega)
  refine ⟨e0, ?_⟩
  rw [wdA, if_neg (by rw [e0]; decide)]
  rfl

noncomputable def lngS : FSpec := fun ds _ => match ds with
  | [.i a] => some { val := .one (.sc (.bool (.lit true))), vc := [] }
  | _ => none
noncomputable def lngC : Con := con [lI] lngS
theorem lng_ok : ConOK Tryd.prog 3 lngC := by
  refine fn_ob tt_ok mixed Tryd.func3 rfl (fun _ _ => by kernel_rfl) (A := fun ds => ⟨fun _ => Cons.of [(9, (conZ ycpC)), (8, wrdC), (10, txtsC)], fun k => match k, ds with | 4, [.i a] => some { ι := Nat, pre := fun _ i => i ≤ kL a, μ := fun i => 700 - i, st := fun s i => famR s [(5, .one (.sc (.int .i64 (.sym ((i : Nat))))))] [0, 3, 4] [(idOf s 4, .own 31 ([.c .nils, .c .nils, .c (.slice (cellIs s 4 2) (.lit 0) (.lit 1))])), (cellIs s 4 2, .own 26 ([.c (.raw (.string ⟨#[112]⟩)), .c .nils, .c (.osl 39 (s.nx - 1) (.lit 0) (.sym i))])), (s.nx - 1, .orow 39 (cpTo i inF))] [] } | _, _ => none, fun _ => none⟩) (fun _ _ => (cons_cons (conZ_ok ycp_ok) (cons_cons wrd_ok (cons_cons txts_ok cons_nil)))) (by kernel_rfl) ?_
  intro ds fr
  unfold lngS
  split
  · rename_i a
    refine kmp (q := (∃ (i : Nat),
 i.le (kL a) ∧
 (0 : Int) = (↑i : Int) ∧
 a = a ∧
 IntKind.i64.wrap ((660 : Int) + IntKind.i64.wrap ((IntKind.u64.wrap a).tmod (10 : Int))) =
 IntKind.i64.wrap ((660 : Int) + IntKind.i64.wrap ((IntKind.u64.wrap a).tmod (10 : Int))) ∧
 (1 : Nat) = (1 : Nat) ∧
 Value.string (ByteArray.mk #[(112 : UInt8)]) = Value.string (ByteArray.mk #[(112 : UInt8)]) ∧ i = (0 : Nat) ∧ List.map inF (List.range i) = []) ∧
 ∀ (i : Nat),
 i.le (kL a) →
 (decide ((↑i : Int) < IntKind.i64.wrap ((660 : Int) + IntKind.i64.wrap ((IntKind.u64.wrap a).tmod (10 : Int)))) = true →
 ((((i = (cpTo i inF).len ∧
 (i +
 ((D.l
 [[D.i (7 : Int), D.s (ByteArray.mk #[(120 : UInt8)]), D.s ByteArray.empty, D.i (0 : Int), D.i (0 : Int), D.s ByteArray.empty,
 D.l [], D.i (0 : Int), D.i (0 : Int), D.i (0 : Int), D.s ByteArray.empty, D.l [], D.i (0 : Int), D.i (0 : Int),
 D.s ByteArray.empty, D.l [], D.l [], D.l [], D.l []]]).sub
 (0 : Nat) ((0 : Nat) + (1 : Nat))).len) *
 (288 : Nat) ≤
 (140737488355328 : Nat) ∧
 (0 : Nat) + (1 : Nat) ≤
 (D.l
 [[D.i (7 : Int), D.s (ByteArray.mk #[(120 : UInt8)]), D.s ByteArray.empty, D.i (0 : Int), D.i (0 : Int), D.s ByteArray.empty, D.l [],
 D.i (0 : Int), D.i (0 : Int), D.i (0 : Int), D.s ByteArray.empty, D.l [], D.i (0 : Int), D.i (0 : Int), D.s ByteArray.empty,
 D.l [], D.l [], D.l [], D.l []]]).len ∧
 ∃ (j : Nat),
 j.le (kL a) ∧
 (700 : Nat) - j < (700 : Nat) - i ∧
 IntKind.i64.wrap ((↑i : Int) + (1 : Int)) = (↑j : Int) ∧
 a = a ∧
 IntKind.i64.wrap ((660 : Int) + IntKind.i64.wrap ((IntKind.u64.wrap a).tmod (10 : Int))) =
 IntKind.i64.wrap ((660 : Int) + IntKind.i64.wrap ((IntKind.u64.wrap a).tmod (10 : Int))) ∧
 (1 : Nat) = (1 : Nat) ∧
 Value.string (ByteArray.mk #[(112 : UInt8)]) = Value.string (ByteArray.mk #[(112 : UInt8)]) ∧
 i +
 ((D.l
 [[D.i (7 : Int), D.s (ByteArray.mk #[(120 : UInt8)]), D.s ByteArray.empty, D.i (0 : Int), D.i (0 : Int),
 D.s ByteArray.empty, D.l [], D.i (0 : Int), D.i (0 : Int), D.i (0 : Int), D.s ByteArray.empty, D.l [],
 D.i (0 : Int), D.i (0 : Int), D.s ByteArray.empty, D.l [], D.l [], D.l [], D.l []]]).sub
 (0 : Nat) ((0 : Nat) + (1 : Nat))).len =
 j ∧
 List.map inF (List.range i) ++
 List.drop (0 : Nat)
 (List.take ((0 : Nat) + (1 : Nat))
 [[D.i (7 : Int), D.s (ByteArray.mk #[(120 : UInt8)]), D.s ByteArray.empty, D.i (0 : Int), D.i (0 : Int),
 D.s ByteArray.empty, D.l [], D.i (0 : Int), D.i (0 : Int), D.i (0 : Int), D.s ByteArray.empty, D.l [],
 D.i (0 : Int), D.i (0 : Int), D.s ByteArray.empty, D.l [], D.l [], D.l [], D.l []]]) =
 List.map inF (List.range j)) ∧
 True) ∧
 True) ∧
 (((i = (cpTo i inF).len ∧
 (i +
 ((D.l
 [[D.i (0 : Int), D.s (ByteArray.mk #[]), D.s (ByteArray.mk #[]), D.i (0 : Int), D.i (0 : Int), D.s (ByteArray.mk #[]), D.l [],
 D.i (0 : Int), D.i (0 : Int), D.i (0 : Int), D.s (ByteArray.mk #[]), D.l [], D.i (0 : Int), D.i (0 : Int),
 D.s (ByteArray.mk #[]), D.l [], D.l [], D.l [], D.l []]]).sub
 (0 : Nat) ((0 : Nat) + (1 : Nat))).len) *
 (288 : Nat) ≤
 (140737488355328 : Nat) ∧
 (0 : Nat) + (1 : Nat) ≤
 (D.l
 [[D.i (0 : Int), D.s (ByteArray.mk #[]), D.s (ByteArray.mk #[]), D.i (0 : Int), D.i (0 : Int), D.s (ByteArray.mk #[]), D.l [],
 D.i (0 : Int), D.i (0 : Int), D.i (0 : Int), D.s (ByteArray.mk #[]), D.l [], D.i (0 : Int), D.i (0 : Int), D.s (ByteArray.mk #[]),
 D.l [], D.l [], D.l [], D.l []]]).len ∧
 ((0 : Int) ≤ (↑i : Int) ∧
 (↑i : Int) <
 (↑(i +
 ((D.l
 [[D.i (0 : Int), D.s (ByteArray.mk #[]), D.s (ByteArray.mk #[]), D.i (0 : Int), D.i (0 : Int), D.s (ByteArray.mk #[]),
 D.l [], D.i (0 : Int), D.i (0 : Int), D.i (0 : Int), D.s (ByteArray.mk #[]), D.l [], D.i (0 : Int),
 D.i (0 : Int), D.s (ByteArray.mk #[]), D.l [], D.l [], D.l [], D.l []]]).sub
 (0 : Nat) ((0 : Nat) + (1 : Nat))).len) :
 Int)) ∧
 (↑i : Int).toNat <
 ((cpTo i inF).app
 ((D.l
 [[D.i (0 : Int), D.s (ByteArray.mk #[]), D.s (ByteArray.mk #[]), D.i (0 : Int), D.i (0 : Int), D.s (ByteArray.mk #[]), D.l [],
 D.i (0 : Int), D.i (0 : Int), D.i (0 : Int), D.s (ByteArray.mk #[]), D.l [], D.i (0 : Int), D.i (0 : Int),
 D.s (ByteArray.mk #[]), D.l [], D.l [], D.l [], D.l []]]).sub
 (0 : Nat) ((0 : Nat) + (1 : Nat)))).len ∧
 ∃ (j : Nat),
 j.le (kL a) ∧
 (700 : Nat) - j < (700 : Nat) - i ∧
 IntKind.i64.wrap ((↑i : Int) + (1 : Int)) = (↑j : Int) ∧
 a = a ∧
 IntKind.i64.wrap ((660 : Int) + IntKind.i64.wrap ((IntKind.u64.wrap a).tmod (10 : Int))) =
 IntKind.i64.wrap ((660 : Int) + IntKind.i64.wrap ((IntKind.u64.wrap a).tmod (10 : Int))) ∧
 (1 : Nat) = (1 : Nat) ∧
 Value.string (ByteArray.mk #[(112 : UInt8)]) = Value.string (ByteArray.mk #[(112 : UInt8)]) ∧
 i +
 ((D.l
 [[D.i (0 : Int), D.s (ByteArray.mk #[]), D.s (ByteArray.mk #[]), D.i (0 : Int), D.i (0 : Int),
 D.s (ByteArray.mk #[]), D.l [], D.i (0 : Int), D.i (0 : Int), D.i (0 : Int), D.s (ByteArray.mk #[]),
 D.l [], D.i (0 : Int), D.i (0 : Int), D.s (ByteArray.mk #[]), D.l [], D.l [], D.l [], D.l []]]).sub
 (0 : Nat) ((0 : Nat) + (1 : Nat))).len =
 j ∧
 (List.map inF (List.range i) ++
 List.drop (0 : Nat)
 (List.take ((0 : Nat) + (1 : Nat))
 [[D.i (0 : Int), D.s (ByteArray.mk #[]), D.s (ByteArray.mk #[]), D.i (0 : Int), D.i (0 : Int),
 D.s (ByteArray.mk #[]), D.l [], D.i (0 : Int), D.i (0 : Int), D.i (0 : Int), D.s (ByteArray.mk #[]),
 D.l [], D.i (0 : Int), D.i (0 : Int), D.s (ByteArray.mk #[]), D.l [], D.l [], D.l [],
 D.l []]])).set
 (↑i : Int).toNat
 [D.i (7 : Int), D.s (ByteArray.mk #[(120 : UInt8)]), D.s ByteArray.empty, D.i (0 : Int), D.i (0 : Int),
 D.s ByteArray.empty, D.l [], D.i (0 : Int), D.i (0 : Int), D.i (0 : Int), D.s ByteArray.empty, D.l [],
 D.i (0 : Int), D.i (0 : Int), D.s ByteArray.empty, D.l [], D.l [], D.l [], D.l []] =
 List.map inF (List.range j)) ∧
 True) ∧
 True) ∧
 True) ∧
 True) ∧
 (decide ((↑i : Int) < IntKind.i64.wrap ((660 : Int) + IntKind.i64.wrap ((IntKind.u64.wrap a).tmod (10 : Int)))) = false →
 (0 : Nat) + i ≤ (cpTo i inF).len ∧
 SyS (D.l []) (D.l []) (D.l [[D.s (ByteArray.mk #[(112 : UInt8)]), D.l [], (cpTo i inF).sub ((0 : Nat)) ((0 : Nat) + i)]]) ∧
 SyOK (cpC (D.l [])) (cpU (D.l [])) (cpP (D.l [[D.s (ByteArray.mk #[(112 : UInt8)]), D.l [], (cpTo i inF).sub ((0 : Nat)) ((0 : Nat) + i)]])) ∧
 (syB (cpC (D.l [])) (cpU (D.l [])) (cpP (D.l [[D.s (ByteArray.mk #[(112 : UInt8)]), D.l [], (cpTo i inF).sub ((0 : Nat)) ((0 : Nat) + i)]])) =
 true →
 syN (cpP (D.l [[D.s (ByteArray.mk #[(112 : UInt8)]), D.l [], (cpTo i inF).sub ((0 : Nat)) ((0 : Nat) + i)]])) = true →
 SyF (cpC (D.l [])) (cpU (D.l []))
 (cpP (D.l [[D.s (ByteArray.mk #[(112 : UInt8)]), D.l [], (cpTo i inF).sub ((0 : Nat)) ((0 : Nat) + i)]]))) ∧
 (decide
 (IntKind.i64.wrap
 ((4 : Int) +
 IntKind.i64.wrap ((3 : Int) * IntKind.i64.wrap ((660 : Int) + IntKind.i64.wrap ((IntKind.u64.wrap a).tmod (10 : Int))))) >
 (2000 : Int)) =
 true →
 (wdE (cpC (D.l [])) (cpU (D.l []))
 (cpP (D.l [[D.s (ByteArray.mk #[(112 : UInt8)]), D.l [], (cpTo i inF).sub ((0 : Nat)) ((0 : Nat) + i)]])) ==
 (4 : Int) &&
 (↑(wdA (cpC (D.l [])) (cpU (D.l []))
 (cpP (D.l [[D.s (ByteArray.mk #[(112 : UInt8)]), D.l [], (cpTo i inF).sub ((0 : Nat)) ((0 : Nat) + i)]]))).len :
 Int) ==
 (0 : Int)) =
 true) ∧
 (decide
 (IntKind.i64.wrap
 ((4 : Int) +
 IntKind.i64.wrap ((3 : Int) * IntKind.i64.wrap ((660 : Int) + IntKind.i64.wrap ((IntKind.u64.wrap a).tmod (10 : Int))))) >
 (2000 : Int)) =
 false →
 (wdE (cpC (D.l [])) (cpU (D.l []))
 (cpP (D.l [[D.s (ByteArray.mk #[(112 : UInt8)]), D.l [], (cpTo i inF).sub ((0 : Nat)) ((0 : Nat) + i)]])) ==
 (0 : Int) &&
 (↑(wdA (cpC (D.l [])) (cpU (D.l []))
 (cpP (D.l [[D.s (ByteArray.mk #[(112 : UInt8)]), D.l [], (cpTo i inF).sub ((0 : Nat)) ((0 : Nat) + i)]]))).len :
 Int) ==
 IntKind.i64.wrap
 ((4 : Int) +
 IntKind.i64.wrap ((3 : Int) * IntKind.i64.wrap ((660 : Int) + IntKind.i64.wrap ((IntKind.u64.wrap a).tmod (10 : Int)))))) =
 true))) (by kernel_rfl) ?_
    rw [kL_eq a]
    have hm := m10_le a
    have hkL : kL a = 660 + m10 a := rfl
    refine ⟨⟨0, Nat.zero_le _, by (repeat' apply And.intro) <;> rfl⟩, fun i hi => ⟨fun hc => ?_, fun hc => ?_⟩⟩
    · have hc := of_decide_eq_true hc
      have hi2 : i < kL a := by omega
      have hw2 : IntKind.i64.wrap ((i : Int) + 1) = ((i + 1 : Nat) : Int) := by rw [IntWalk.i64_in _ (by omega)]; omega
      have hs : (List.map inF (List.range i)).length = i := by simp
      refine ⟨⟨⟨⟨?_, trivial⟩, trivial⟩, ⟨⟨?_, trivial⟩, trivial⟩, trivial⟩, trivial⟩
      · refine ⟨(cpTo_len _ _).symm, (show (i + 1) * 288 ≤ 140737488355328 by omega), Nat.le_refl _, i + 1, hi2, by omega, hw2, rfl, rfl, rfl, rfl, rfl, ?_⟩
        rw [List.range_succ, List.map_append]; rfl
      · refine ⟨(cpTo_len _ _).symm, (show (i + 1) * 288 ≤ 140737488355328 by omega), Nat.le_refl _, ⟨by omega, (show (i : Int) < ((i + 1 : Nat) : Int) by omega)⟩, ?_, i + 1, hi2, by omega, hw2, rfl, rfl, rfl, rfl, rfl, ?_⟩
        · rw [Int.toNat_natCast, D.app_len, cpTo_len]
          show i < i + 1
          omega
        · rw [Int.toNat_natCast]
          refine Eq.trans ?_ (show List.map inF (List.range i) ++ [inR] = List.map inF (List.range (i + 1)) by rw [List.range_succ, List.map_append]; rfl)
          rw [List.set_append_right _ _ (by rw [hs]; exact Nat.le_refl _), hs, Nat.sub_self]
          rfl
    · have hc := of_decide_eq_false hc
      have hi3 : i = kL a := by have : i ≤ kL a := hi; omega
      subst hi3
      rw [sub_all]
      have hk6 : kL a ≤ 1000000 := by omega
      have e := cpP_L (kL a)
      unfold pL at e
      rw [e]
      refine ⟨by rw [cpTo_len]; omega, SyS_L hk6, SyOK_L hk6, fun _ _ => SyF_L hk6, fun hd => ?_, fun hd => ?_⟩
      · have hd := of_decide_eq_true hd
        rw [IntWalk.i64_in (3 * (kL a : Int)) (by omega), IntWalk.i64_in _ (by omega)] at hd
        obtain ⟨w1, w2⟩ := wd_L4 (k := kL a) (by omega)
        show (wdE (.l []) (.l []) (pL (kL a)) == 4 && (((wdA (.l []) (.l []) (pL (kL a))).len : Nat) : Int) == 0) = true
        rw [w1, w2]; rfl
      · have hd := of_decide_eq_false hd
        rw [IntWalk.i64_in (3 * (kL a : Int)) (by omega), IntWalk.i64_in _ (by omega)] at hd ⊢
        obtain ⟨w1, w2⟩ := wd_L0 (k := kL a) (by omega)
        show (wdE (.l []) (.l []) (pL (kL a)) == 0 && (((wdA (.l []) (.l []) (pL (kL a))).len : Nat) : Int) == 4 + 3 * (kL a : Int)) = true
        rw [w1, w2]
        simp
  · trivial
end Go.Proofs.YtomodncooiddaaaDoor.Sx.Z
