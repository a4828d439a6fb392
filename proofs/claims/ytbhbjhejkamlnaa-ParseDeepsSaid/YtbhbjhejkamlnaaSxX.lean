/-
  What lies still from now on: rows of one's own that become parts of others.
-/
import Derived.Test.YtbhbjhejkamlnaaSxR
namespace Go.Proofs.Ytbhbjhejkamlnaa.Sx
open Go.RowKit

/-! ### What is handed over lies still -/
def ownId (hp : Heap) (id : Nat) : Bool := match look hp id with | some x => x.isOwn | none => false
def inIds (ρ : Map) (b : Nat) : List Nat → Bool
  | [] => false
  | id :: r => ((ρ id).isSome && Nat.beq (ρ.blk id) b) || inIds ρ b r
theorem inIds_iff {ρ : Map} {b : Nat} : ∀ {l : List Nat}, inIds ρ b l = true ↔ ∃ id ∈ l, (ρ id).isSome = true ∧ ρ.blk id = b
  | [] => by simp [inIds]
  | id :: r => by
    simp only [inIds, Bool.or_eq_true, Bool.and_eq_true, inIds_iff (l := r), List.mem_cons]
    constructor
    · rintro (⟨h1, h2⟩ | ⟨j, hj, h⟩)
      · exact ⟨id, .inl rfl, h1, Nat.eq_of_beq_eq_true h2⟩
      · exact ⟨j, .inr hj, h⟩
    · rintro ⟨j, rfl | hj, h1, h2⟩
      · exact .inl ⟨h1, by rw [h2]; exact Nat.beq_refl b⟩
      · exact .inr ⟨j, hj, h1, h2⟩
def cellsAt (w : World) (b : Nat) : Option (Array Value) := match w.heap[b]? with | some (.cells cs _ _) => some cs | _ => none
/-- .. with blocks of one's own. -/
def passF (ρ : Map) (w : World) (ids : List Nat) : Fz := fun b => match ρ.fz b with | some cs => some cs | none => if inIds ρ b ids then cellsAt w b else none
theorem passF_le (ρ : Map) (w : World) (ids : List Nat) : FzLe ρ.fz (passF ρ w ids) := fun b cs h => by unfold passF; rw [h]
theorem WH.tabP {w0 : W0} {ρ : Map} {h : Heap} {w : World} (hw : WH w0 ρ h w) (ids : List Nat) : TabF (passF ρ w ids) := by
  have h1 := hw.tab
  rw [← hw.f00] at h1
  exact (h1.mono hw.sub).mono (passF_le ρ w ids)
theorem cellsAt_some {w : World} {b : Nat} {cs : Array Value} (h : cellsAt w b = some cs) : ∃ T z, w.heap[b]? = some (.cells cs T z) := by
  unfold cellsAt at h
  split at h
  · rename_i cs' T z hh
    obtain rfl := by simpa using h
    exact ⟨T, z, hh⟩
  · cases h
theorem passF_some {ρ : Map} {w : World} {ids : List Nat} {b : Nat} {cs : Array Value} (h : passF ρ w ids b = some cs) : ρ.fz b = some cs ∨ ((∃ id ∈ ids, (ρ id).isSome = true ∧ ρ.blk id = b) ∧ ∃ T z, w.heap[b]? = some (.cells cs T z)) := by
  unfold passF at h
  split at h
  · rename_i cs' hc; exact .inl (by rw [hc]; exact h)
  · split at h
    · rename_i hi; exact .inr ⟨inIds_iff.1 hi, cellsAt_some h⟩
    · cases h
theorem passF_froz {ρ : Map} {w : World} (hz : Frozen ρ w) {ids : List Nat} {b : Nat} {cs : Array Value} (h : passF ρ w ids b = some cs) : ∃ T z, w.heap[b]? = some (.cells cs T z) := by
  rcases passF_some h with h | ⟨_, h⟩
  · exact hz b cs h
  · exact h
theorem passF_at {ρ : Map} {w : World} (hz : Frozen ρ w) {ids : List Nat} {id : Nat} (hi : id ∈ ids) (hs : (ρ id).isSome = true) {cs : Array Value} {T : TypeId} {z : Nat × Nat} (hh : w.heap[ρ.blk id]? = some (.cells cs T z)) : passF ρ w ids (ρ.blk id) = some cs := by
  unfold passF
  split
  · rename_i cs' hc
    obtain ⟨T', z', hh'⟩ := hz _ _ hc
    rw [hh] at hh'
    simp only [Option.some.injEq, Obj.cells.injEq] at hh'
    rw [hh'.1]
  · rw [if_pos (inIds_iff.2 ⟨id, hi, hs, rfl⟩)]
    unfold cellsAt
    rw [hh]
def idsC : SC → List Nat | .slice id _ _ => [id] | .osl _ id _ _ => [id] | _ => []
def idsS : List Seg → List Nat
  | [] => []
  | .c x :: r => idsC x ++ idsS r
  | .ints .. :: r => idsS r
def idsV : V1 → List Nat | .sc x => idsC x | .agg l => idsS l
def idsT : List V1 → List Nat
  | [] => []
  | x :: r => idsV x ++ idsT r
def idsSV : SV → List Nat | .one x => idsV x | .tup l => idsT l | _ => []
def idsL : List SV → List Nat
  | [] => []
  | x :: r => idsSV x ++ idsL r
def keepOwn (hp : Heap) : List Nat → List Nat
  | [] => []
  | id :: r => if ownId hp id then id :: keepOwn hp r else keepOwn hp r
theorem keepOwn_mem {hp : Heap} : ∀ {l : List Nat} {id : Nat}, id ∈ keepOwn hp l ↔ id ∈ l ∧ ownId hp id = true
  | [], id => by simp [keepOwn]
  | j :: r, id => by
    simp only [keepOwn]
    split
    · rename_i h
      simp only [List.mem_cons, keepOwn_mem (l := r)]
      constructor
      · rintro (rfl | ⟨a, b⟩)
        · exact ⟨.inl rfl, h⟩
        · exact ⟨.inr a, b⟩
      · rintro ⟨rfl | a, b⟩
        · exact .inl rfl
        · exact .inr ⟨a, b⟩
    · rename_i h
      rw [keepOwn_mem (l := r), List.mem_cons]
      constructor
      · rintro ⟨a, b⟩; exact ⟨.inr a, b⟩
      · rintro ⟨rfl | a, b⟩
        · exact absurd b h
        · exact ⟨a, b⟩
/-- What a slice holds, told among what lies still. -/
theorem conE_rel {hp : Heap} {e : TypeId} {c : SC} {d : D} {ps : List Prop} (h : conE hp e c = some (d, ps)) (hps : All ps) {w0 : W0} {w : World} {ρ : Map} (hw : WH w0 ρ hp w) {v : Value} (hv : CRel ρ c v) {ids : List Nat} (hids : ∀ id ∈ idsC c, ownId hp id = true → id ∈ ids) : TRel (passF ρ w ids) (.slice e) d v := by
  unfold conE at h
  split at h
  · obtain ⟨rfl, rfl⟩ := by simpa using h
    obtain rfl : v = _ := hv
    exact .nil _ _ rfl
  · rename_i e' d'
    split at h
    · rename_i he
      obtain rfl := Nat.eq_of_beq_eq_true he
      obtain ⟨rfl, rfl⟩ := by simpa using h
      exact TRel.mono (passF_le ρ w ids) hv
    · cases h
  · rename_i e' id lo n
    split at h
    · rename_i he
      obtain rfl := Nat.eq_of_beq_eq_true he
      split at h
      · rename_i e'' d' hl
        split at h
        · rename_i he'
          obtain rfl := Nat.eq_of_beq_eq_true he'
          obtain ⟨rfl, rfl⟩ := by simpa using h
          obtain ⟨hle, _⟩ := hps
          obtain ⟨A, cp, rfl, hc, hA⟩ := hv
          have hlen : (d'.sub lo.v (lo.v + n.v)).len = n.v := by rw [D.sub_len _ hle]; omega
          rcases hA with ⟨hc0, hsp⟩ | ⟨rfl, hcap, hid⟩
          · have hn : n.v = 0 := by omega
            cases A with
            | none =>
              rw [hn, hc0]
              exact .nil _ _ (by rw [Nat.add_zero, D.sub_len _ (by omega)]; omega)
            | some a =>
              have : a = ⟨a.block, a.off, none⟩ := by have := hsp a rfl; cases a; simp_all
              rw [show Value.slice (some a) n.v cp = Value.slice (some ⟨a.block, a.off, none⟩) (d'.sub lo.v (lo.v + n.v)).len cp by rw [hlen, ← this]]
              exact .slice _ _ _ _ _ (fun _ _ => undef) (by omega) (fun i j hi _ => by omega) (fun i j k hi _ => by omega)
          · rcases hw.ents id _ hl with ⟨g0, _⟩ | ⟨_, _, _, cs, hh, hsz, hd, hcs⟩
            · rw [g0] at hid; cases hid
            · have hF := passF_at hw.froz (hids id (by simp [idsC]) (by simp [ownId, hl, Ent.isOwn])) hid hh
              rw [show Value.slice (some ⟨ρ.blk id, lo.v * (eks e).length, none⟩) n.v cp = Value.slice (some ⟨ρ.blk id, lo.v * (eks e).length, none⟩) (d'.sub lo.v (lo.v + n.v)).len cp by rw [hlen]]
              have key : ∀ i j, i < n.v → ∀ k, (eks e)[j]? = some k → ∃ u, cs[lo.v * (eks e).length + i * (eks e).length + j]? = some u ∧ TRel ρ.fz k ((d'.sub lo.v (lo.v + n.v)).el i j) u := fun i j hi k hk => by
                obtain ⟨u, hu, ht⟩ := hcs (lo.v + i) j k (by omega) hk
                refine ⟨u, ?_, ?_⟩
                · rw [← hu]; congr 1; rw [Nat.add_mul]
                · rw [D.sub_el _ (by omega)]; exact ht
              refine .slice _ _ _ _ _ (fun i j => (cs[lo.v * (eks e).length + i * (eks e).length + j]?).getD undef) (by omega) (fun i j hi hj => ?_) (fun i j k hi hk => ?_)
              · obtain ⟨u, hu, _⟩ := key i j (by omega) _ (List.getElem?_eq_getElem hj)
                simp only [Fz.cell, hF, hu, Option.getD_some]
              · obtain ⟨u, hu, ht⟩ := key i j (by omega) k hk
                simp only [hu, Option.getD_some]
                exact ht.mono (passF_le ρ w ids)
        · cases h
      · cases h
    · cases h
  · cases h
def kills : List Nat → Heap
  | [] => []
  | id :: r => (id, .gone) :: kills r
theorem kills_look : ∀ {l : List Nat} {id : Nat} {x : Ent}, look (kills l) id = some x → x = .gone ∧ id ∈ l
  | [], id, x, h => by simp [kills, look] at h
  | j :: r, id, x, h => by
    simp only [kills, look] at h
    split at h
    · rename_i hj
      exact ⟨(by simpa using h.symm), by rw [show j = id by simpa using hj]; exact List.mem_cons_self ..⟩
    · obtain ⟨h1, h2⟩ := kills_look h
      exact ⟨h1, List.mem_cons_of_mem _ h2⟩
theorem kills_mem : ∀ {l : List Nat} {id : Nat}, id ∈ l → look (kills l) id = some .gone
  | [], id, h => by cases h
  | j :: r, id, h => by
    simp only [kills, look]
    split
    · rfl
    · rename_i hj
      rcases List.mem_cons.1 h with rfl | h
      · exact absurd (by simp) hj
      · exact kills_mem h
/-! ### What lies still from now on -/
def Map.frz (ρ : Map) (w : World) (ids : List Nat) : Map := { ρ with fz := passF ρ w ids }
theorem fr_freeze {B : Nat} {ρ : Map} {w : World} (_hz : Frozen ρ w) (ids : List Nat) (sv : SV) (vc : List Prop) : Fr B ρ (ρ.frz w ids) w w { val := sv, vc := vc, st := kills ids } := by
  refine ⟨⟨fun _ _ h => h, fun _ _ => rfl, passF_le ρ w ids, rfl, rfl⟩, fun _ _ => rfl, Below.refl 0 w, fun _ _ _ => rfl, fun id x hx => by rw [(kills_look hx).1]; trivial, fun _ _ h => by simp [look] at h, fun _ _ _ _ h => by simp [look] at h, fun b cs hc => ?_⟩
  rcases passF_some hc with h | ⟨⟨id, hi, hs, hb⟩, hh⟩
  · exact .inl h
  · exact .inr ⟨.inr ⟨id, kills_mem hi, hs, hb.symm⟩, hh, fun _ _ h => by simp [look] at h⟩
theorem stOK_kills {hp : Heap} {ids : List Nat} : ∀ id x, look (kills (keepOwn hp ids)) id = some x → x.okSt = true ∧ look ([] : Heap) id = none ∧ ∃ y, look hp id = some y ∧ y.isOwn = true := fun id x hx => by
  obtain ⟨rfl, hi⟩ := kills_look hx
  obtain ⟨_, ho⟩ := keepOwn_mem.1 hi
  refine ⟨rfl, rfl, ?_⟩
  unfold ownId at ho
  split at ho
  · rename_i y hy; exact ⟨y, hy, ho⟩
  · cases ho
/-! ### Slices written out whose cells are known one by one -/
def isLit (E len : Nat) : List (Nat × Nat) → Bool
  | [] => false
  | (t, m) :: r => (Nat.beq t E && Nat.ble m len) || isLit E len r
def sBSliceG (tt : TT) (fr : Nat) (t : TypeId) (len : Nat) (pv : List (Nat × SV)) : Option Eff :=
  match uD tt t with
  | some (.slice E) => if isLit E len litTs then (match elT tt E with
    | some x => if Nat.ble (len * x.ks.length) 16777216 then (match fillS (fun i => some (i * x.ks.length, x.ks.length)) (List.replicate len x.zero).flatten pv with
      | some (l, ps) => (match toDs x.zero x.ks with
        | some _ => some { val := .one (.sc (.slice fr (.lit 0) (.lit len))), vc := ps, nw := [(fr, .own E l)] }
        | none => none)
      | none => none) else none
    | none => none) else none
  | _ => none
theorem sBSliceG_spec {P : Program} {tt : TT} (htt : TTOK P tt) {fr : Nat} {t : TypeId} {len : Nat} {pv : List (Nat × SV)} {e : Eff} (h : sBSliceG tt fr t len pv = some e) (hvc : All e.vc) {ρ : Map} {w0 : W0} {w : World} (hB : w0.heap.size ≤ w.heap.size) (hz : Frozen ρ w) (hfr : ∀ id x, look e.nw id = some x → ρ id = none)
    {parts : Array (Nat × Value)} (hl : pv.length = parts.toList.length) (hv : ∀ (i : Nat) a b, pv[i]? = some a → parts.toList[i]? = some b → a.1 = b.1 ∧ UR ρ a.2 b.2) :
    ∃ v w', (Instr.buildSlice t len parts).run P w = .ok v w' ∧ UR (ρ.set fr (w.heap.size, 0)) e.val v ∧ Fr w0.heap.size ρ (ρ.set fr (w.heap.size, 0)) w w' e := by
  unfold sBSliceG at h
  split at h
  · rename_i E hT
    obtain ⟨d, hT, hd⟩ := tt_u htt hT
    obtain rfl := u_slice hd
    split at h
    · split at h
      · rename_i xi hxi
        obtain ⟨g1, g2, i, z, g3, g4, g5, g6, g7⟩ := tt_el htt hxi
        split at h
        · rename_i hlen
          have hlen := Nat.le_of_ble_eq_true hlen
          split at h
          · rename_i l ps hf
            split at h
            · rename_i zd hzd
              obtain rfl := by simpa using h
              have hzr : (zeroValue E).run P w = .ok z w := by simp [zeroValue, typeInfo, g3, g5]
              have hsz : z.cells.size = xi.ks.length := by simpa using (toDs_spec hzd (g7 ρ)).2.1
              have hcs : CsRel ρ (cellsOf (List.replicate len xi.zero).flatten) ((Array.range (len * xi.ks.length)).map (z.cells[· % z.cells.size]!)).toList := by
                rw [← hsz, rep_cells (by omega)]
                exact csrel_rep (g7 ρ) len
              obtain ⟨cells', h1, h2⟩ := fillS_spec pv parts.toList _ l ps _ hf hvc hl hv hcs
              have hno : ¬ len * xi.ks.length > 2 ^ 24 := by omega
              refine ⟨.slice (some ⟨w.heap.size, 0, none⟩) len len, w.alloc (.cells cells' E), ?_, ?_, fr_alloc hB hz (hfr fr (.own E l) (by simp [look])) h2 _ _⟩
              · simp only [Instr.buildSlice, Sem.run_bind, run_underlying hT, Result.andThen_ok, run_sizeOf g3, g4, if_neg hno]
                by_cases h0 : len * xi.ks.length = 0
                · have hl0 : len = 0 := by
                    rcases Nat.mul_eq_zero.1 h0 with h | h
                    · exact h
                    · omega
                  subst hl0
                  simp only [if_pos h0, Sem.run_bind, Sem.run_pure, Result.andThen_ok]
                  have e0 : ((Array.range (0 * xi.ks.length)).map fun q => (#[] : Array Value)[q % (#[] : Array Value).size]!) = ((Array.range (0 * xi.ks.length)).map (z.cells[· % z.cells.size]!)) := by simp
                  rw [e0, h1]
                  rfl
                · simp only [if_neg h0, Sem.run_bind, hzr, Sem.run_pure, Result.andThen_ok]
                  rw [h1]
                  rfl
              · refine ⟨some ⟨w.heap.size, 0, none⟩, len, rfl, Nat.le_refl _, .inl ⟨by simp [Map.set], ?_⟩⟩
                simp [Map.at, Map.blk, Map.off, Map.set, SO.v]
            · cases h
          · cases h
        · cases h
      · cases h
    · cases h
  · cases h
def sBS (tt : TT) (fr : Nat) (t : TypeId) (len : Nat) (pv : List (Nat × SV)) : Option Eff := match sBSliceG tt fr t len pv with | some e => some e | none => match sBSliceE tt fr t len pv with | some e => some e | none => sBSlice tt fr t len pv
theorem sBS_spec {P : Program} {tt : TT} (htt : TTOK P tt) {fr : Nat} {t : TypeId} {len : Nat} {pv : List (Nat × SV)} {e : Eff} (h : sBS tt fr t len pv = some e) (hvc : All e.vc) {ρ : Map} {w0 : W0} {w : World} (hB : w0.heap.size ≤ w.heap.size) (hz : Frozen ρ w) (hfr : ∀ id x, look e.nw id = some x → ρ id = none)
    {parts : Array (Nat × Value)} (hl : pv.length = parts.toList.length) (hv : ∀ (i : Nat) a b, pv[i]? = some a → parts.toList[i]? = some b → a.1 = b.1 ∧ UR ρ a.2 b.2) :
    ∃ v w' c, (Instr.buildSlice t len parts).run P w = .ok v w' ∧ UR (ρ.set fr (w.heap.size, 0) c) e.val v ∧ Fr w0.heap.size ρ (ρ.set fr (w.heap.size, 0) c) w w' e := by
  unfold sBS at h
  split at h
  · rename_i e' hb
    simp only [Option.some.injEq] at h
    subst h
    obtain ⟨v, w', h1, h2, h3⟩ := sBSliceG_spec htt hb hvc hB hz hfr hl hv
    exact ⟨v, w', 0, h1, h2, h3⟩
  · split at h
    · rename_i e' hb
      simp only [Option.some.injEq] at h
      subst h
      exact sBSliceE_spec htt hb hvc hB hz hfr hl hv
    · obtain ⟨v, w', h1, h2, h3⟩ := sBSlice_spec htt h hvc hB hz hfr hl hv
      exact ⟨v, w', 0, h1, h2, h3⟩
/-- Frozen first, and then changed. -/
theorem fr_comp {B : Nat} {ρ ρ2 : Map} {w w2 : World} {ids : List Nat} {e : Eff} (hz : Frozen ρ w) (h : Fr B (ρ.frz w ids) ρ2 w w2 e) (hst : ∀ id x, look e.st id = some x → (ρ id).isSome = true → (ρ.frz w ids).fz (ρ.blk id) = none) (ps : List Prop) : Fr B ρ ρ2 w w2 { e with vc := ps, st := kills ids ++ e.st } := by
  have f := fr_freeze (B := B) hz ids .junk []
  have hl : ∀ id x, look e.st id = some x → ∃ y, look (kills ids ++ e.st) id = some y := fun id x hx => by
    rw [look_append]
    cases look (kills ids) id with
    | some y => exact ⟨y, rfl⟩
    | none => exact ⟨x, hx⟩
  have hk : ∀ b, Killed (ρ.frz w ids) e.st b → Killed ρ (kills ids ++ e.st) b := fun b ⟨k, h1, h2, h3⟩ => by
    refine ⟨k, ?_, h2, h3⟩
    rw [look_append]
    cases hq : look (kills ids) k with
    | some y => rw [(kills_look hq).1]
    | none => exact h1
  refine ⟨f.ext.trans h.ext, fun id hid => h.only id hid, h.below, fun b hb hn => h.keep b hb fun id x hx hs => ?_, fun id x hx => ?_, fun id x hx => ?_, h.apart, fun b cs hc => ?_⟩
  · obtain ⟨y, hy⟩ := hl id x hx
    exact hn id y hy hs
  · have hx' : look (kills ids ++ e.st) id = some x := hx
    rw [look_append] at hx'
    cases hq : look (kills ids) id with
    | some y =>
      rw [hq] at hx'
      obtain rfl := by simpa using hx'
      rw [(kills_look hq).1]; trivial
    | none => rw [hq] at hx'; exact h.st id x hx'
  · obtain ⟨h1, h2, h3⟩ := h.nw id x hx
    exact ⟨h1, fun hs => (h2 hs).imp (fun h => h) (hk _), h3⟩
  · rcases h.fz b cs hc with h1 | ⟨h1, h2, h3⟩
    · rcases passF_some h1 with h4 | ⟨⟨id, hi, hs, hb⟩, T, z, hh⟩
      · exact .inl h4
      · refine .inr ⟨.inr ⟨id, ?_, hs, hb.symm⟩, ?_, fun i x hx hi' hbb => ?_⟩
        · show look (kills ids ++ e.st) id = _
          rw [look_append, kills_mem hi]
        · exact ⟨T, z, by rw [h.keep b (heap_lt hh) (fun k y hy hks hkb => by
            have := hst k y hy hks
            have hkb' : ρ.blk k = b := hkb
            rw [hkb', h1] at this; cases this)]; exact hh⟩
        · obtain ⟨g1, _, g3⟩ := h.nw i x hx
          have := (erel_some g1 g3 hi').1.2
          rw [hbb, hc] at this; cases this
    · exact .inr ⟨h1.imp (fun h => h) (hk _), h2, h3⟩

theorem csrel_cons {ρ : Map} {a b : List SC} {vs : List Value} : CsRel ρ (a ++ b) vs ↔ ∃ x y, vs = x ++ y ∧ CsRel ρ a x ∧ CsRel ρ b y := by
  constructor
  · intro h
    refine ⟨vs.take a.length, vs.drop a.length, by simp, ⟨by have := h.1; simp at this ⊢; omega, fun i x v hx hv => ?_⟩, ⟨by have := h.1; simp at this ⊢; omega, fun i x v hx hv => ?_⟩⟩
    · have hi := lt_of_get hx
      rw [List.getElem?_take_of_lt hi] at hv
      exact h.2 i x v (by rw [List.getElem?_append_left hi]; exact hx) hv
    · rw [List.getElem?_drop] at hv
      exact h.2 (a.length + i) x v (by rw [List.getElem?_append_right (by omega)]; simpa using hx) hv
  · rintro ⟨x, y, rfl, h1, h2⟩
    exact csrel_append h1 h2
/-! ### Rows of one's own, told as what lies still -/
def fzC (hp : Heap) : SC → SC × List Prop × List Nat
  | .osl e id lo n => (match conE hp e (.osl e id lo n) with | some (d, ps) => (.rows e d, ps, [id]) | none => (.osl e id lo n, [], []))
  | x => (x, [], [])
def fzS (hp : Heap) : List Seg → List Seg × List Prop × List Nat
  | [] => ([], [], [])
  | .c x :: r => (match fzC hp x, fzS hp r with | (x', ps, is), (r', qs, js) => (.c x' :: r', ps ++ qs, is ++ js))
  | .ints k n f :: r => (match fzS hp r with | (r', qs, js) => (.ints k n f :: r', qs, js))
def fzV (hp : Heap) : V1 → V1 × List Prop × List Nat
  | .sc x => (match fzC hp x with | (x', r) => (.sc x', r))
  | .agg a => (match fzS hp a with | (a', r) => (.agg a', r))
def fzSV (hp : Heap) : SV → SV × List Prop × List Nat
  | .one x => (match fzV hp x with | (x', r) => (.one x', r))
  | x => (x, [], [])
def fzP (hp : Heap) : List (Nat × SV) → List (Nat × SV) × List Prop × List Nat
  | [] => ([], [], [])
  | (i, x) :: r => (match fzSV hp x, fzP hp r with | (x', ps, is), (r', qs, js) => ((i, x') :: r', ps ++ qs, is ++ js))
section
variable {hp : Heap} {w0 : W0} {w : World} {ρ : Map} {all : List Nat}
theorem fzC_spec (hw : WH w0 ρ hp w) (x : SC) (hp' : All (fzC hp x).2.1) (hall : ∀ id ∈ (fzC hp x).2.2, ownId hp id = true → id ∈ all) {v : Value} (hv : CRel ρ x v) : CRel (ρ.frz w all) (fzC hp x).1 v := by
  have ext : Ext ρ (ρ.frz w all) := (fr_freeze (B := 0) hw.froz all .junk []).ext
  cases x with
  | osl e id lo n =>
    simp only [fzC] at hp' hall ⊢
    cases hc : conE hp e (.osl e id lo n) with
    | some p =>
      obtain ⟨d, ps⟩ := p
      rw [hc] at hp' hall
      dsimp only at hp' hall ⊢
      exact conE_rel hc hp' hw hv (fun i hi ho => hall i (by simpa [idsC] using hi) ho)
    | none => exact crel_ext ext hv
  | _ => exact crel_ext ext hv
theorem fzS_spec (hw : WH w0 ρ hp w) : ∀ (x : List Seg), All (fzS hp x).2.1 → (∀ id ∈ (fzS hp x).2.2, ownId hp id = true → id ∈ all) → ∀ {vs : List Value}, CsRel ρ (cellsOf x) vs → CsRel (ρ.frz w all) (cellsOf (fzS hp x).1) vs
  | [], _, _, vs, hv => csrel_ext (fr_freeze (B := 0) hw.froz all .junk []).ext hv
  | .c x :: r, hp', hall, vs, hv => by
    obtain ⟨hp1, hp2⟩ := all_append.1 (show All ((fzC hp x).2.1 ++ (fzS hp r).2.1) from hp')
    have hall' : ∀ id ∈ (fzC hp x).2.2 ++ (fzS hp r).2.2, ownId hp id = true → id ∈ all := hall
    show CsRel (ρ.frz w all) (cellsOf (.c (fzC hp x).1 :: (fzS hp r).1)) vs
    rw [cellsOf_cons] at hv ⊢
    obtain ⟨u, v, rfl, g1, g2⟩ := csrel_cons.1 hv
    refine csrel_append ⟨g1.1, fun i a b ha hb => ?_⟩ (fzS_spec hw r hp2 (fun id hi => hall' id (List.mem_append_right _ hi)) g2)
    cases i with
    | zero =>
      simp only [Seg.cells, List.getElem?_cons_zero, Option.some.injEq] at ha
      subst ha
      exact fzC_spec hw x hp1 (fun id hi => hall' id (List.mem_append_left _ hi)) (g1.2 0 x b (by simp [Seg.cells]) hb)
    | succ i => simp [Seg.cells] at ha
  | .ints k n f :: r, hp', hall, vs, hv => by
    show CsRel (ρ.frz w all) (cellsOf (.ints k n f :: (fzS hp r).1)) vs
    rw [cellsOf_cons] at hv ⊢
    obtain ⟨u, v, rfl, g1, g2⟩ := csrel_cons.1 hv
    exact csrel_append (csrel_ext (fr_freeze (B := 0) hw.froz all .junk []).ext g1) (fzS_spec hw r hp' hall g2)
theorem fzV_spec (hw : WH w0 ρ hp w) (x : V1) (hp' : All (fzV hp x).2.1) (hall : ∀ id ∈ (fzV hp x).2.2, ownId hp id = true → id ∈ all) {v : Value} (hv : V1Rel ρ x v) : V1Rel (ρ.frz w all) (fzV hp x).1 v := by
  cases x with
  | sc c => exact fzC_spec hw c hp' hall hv
  | agg l => obtain ⟨cs, rfl, hc⟩ := hv; exact ⟨cs, rfl, fzS_spec hw l hp' hall hc⟩
theorem fzSV_spec (hw : WH w0 ρ hp w) (x : SV) (hp' : All (fzSV hp x).2.1) (hall : ∀ id ∈ (fzSV hp x).2.2, ownId hp id = true → id ∈ all) {v : Value} (hv : UR ρ x v) : UR (ρ.frz w all) (fzSV hp x).1 v := by
  cases x with
  | one c => exact fzV_spec hw c hp' hall hv
  | tup l => exact ur_ext (fr_freeze (B := 0) hw.froz all .junk []).ext hv
  | cond => exact hv.elim
  | junk => exact hv.elim
theorem fzP_spec (hw : WH w0 ρ hp w) : ∀ (pv : List (Nat × SV)) (l : List (Nat × Value)), All (fzP hp pv).2.1 → (∀ id ∈ (fzP hp pv).2.2, ownId hp id = true → id ∈ all) → pv.length = l.length → (∀ (i : Nat) a b, pv[i]? = some a → l[i]? = some b → a.1 = b.1 ∧ UR ρ a.2 b.2) →
    (fzP hp pv).1.length = l.length ∧ ∀ (i : Nat) a b, (fzP hp pv).1[i]? = some a → l[i]? = some b → a.1 = b.1 ∧ UR (ρ.frz w all) a.2 b.2
  | [], l, _, _, hl, _ => ⟨hl, fun i a b ha => by simp [fzP] at ha⟩
  | (k, x) :: r, [], _, _, hl, _ => by simp at hl
  | (k, x) :: r, y :: l, hp', hall, hl, hv => by
    obtain ⟨hp1, hp2⟩ := all_append.1 (show All ((fzSV hp x).2.1 ++ (fzP hp r).2.1) from hp')
    have hall' : ∀ id ∈ (fzSV hp x).2.2 ++ (fzP hp r).2.2, ownId hp id = true → id ∈ all := hall
    obtain ⟨h1, h2⟩ := fzP_spec hw r l hp2 (fun id hi => hall' id (List.mem_append_right _ hi)) (by simpa using hl) (fun i a b ha hb => hv (i + 1) a b (by simpa using ha) (by simpa using hb))
    refine ⟨by show ((k, (fzSV hp x).1) :: (fzP hp r).1).length = _; simp [h1], fun i a b ha hb => ?_⟩
    have ha' : ((k, (fzSV hp x).1) :: (fzP hp r).1)[i]? = some a := ha
    cases i with
    | zero =>
      simp only [List.getElem?_cons_zero, Option.some.injEq] at ha' hb
      subst ha' hb
      obtain ⟨g1, g2⟩ := hv 0 (k, x) y rfl rfl
      exact ⟨g1, fzSV_spec hw x hp1 (fun id hi => hall' id (List.mem_append_left _ hi)) g2⟩
    | succ i => exact h2 i a b (by simpa using ha') (by simpa using hb)
end
theorem wh_frz {w0 : W0} {w : World} {ρ : Map} {hp : Heap} (hw : WH w0 ρ hp w) (ids : List Nat) : WH w0 (ρ.frz w (keepOwn hp ids)) (kills (keepOwn hp ids) ++ hp) w := by
  have := wh_step hw (fr_freeze (B := w0.heap.size) hw.froz (keepOwn hp ids) .junk []) (fun i x hx => stOK_kills i x hx) (fun _ _ h => by simp [look] at h)
  exact this
/-- A slice written out: rows of one's own among its elements lie still from then on. -/
def sBF (tt : TT) (hp : Heap) (fr : Nat) (t : TypeId) (len : Nat) (pv : List (Nat × SV)) : Option Eff := match sBS tt fr t len pv with
  | some e => some e
  | none => (match fzP hp pv with
    | (pv', ps, ids) => (match sBS tt fr t len pv' with
      | some e => (match e.st with | [] => some { e with vc := ps ++ e.vc, st := kills (keepOwn hp ids) } | _ => none)
      | none => none))
theorem sBF_spec {P : Program} {tt : TT} (htt : TTOK P tt) {hp : Heap} {fr : Nat} {t : TypeId} {len : Nat} {pv : List (Nat × SV)} {e : Eff} (h : sBF tt hp fr t len pv = some e) (hvc : All e.vc) {ρ : Map} {w0 : W0} {w : World} (hw : WH w0 ρ hp w) (hfr : ∀ id x, look e.nw id = some x → ρ id = none)
    {parts : Array (Nat × Value)} (hl : pv.length = parts.toList.length) (hv : ∀ (i : Nat) a b, pv[i]? = some a → parts.toList[i]? = some b → a.1 = b.1 ∧ UR ρ a.2 b.2) :
    ∃ v w' ρ', (Instr.buildSlice t len parts).run P w = .ok v w' ∧ UR ρ' e.val v ∧ Fr w0.heap.size ρ ρ' w w' e := by
  unfold sBF at h
  split at h
  · rename_i e' hb
    simp only [Option.some.injEq] at h
    subst h
    obtain ⟨v, w', c, h1, h2, h3⟩ := sBS_spec htt hb hvc hw.below.size hw.froz hfr hl hv
    exact ⟨v, w', _, h1, h2, h3⟩
  · dsimp only at h
    split at h
    · rename_i e' hb
      split at h
      · rename_i hst
        obtain rfl := by simpa using h
        obtain ⟨hp1, hp2⟩ := all_append.1 hvc
        obtain ⟨g1, g2⟩ := fzP_spec hw pv parts.toList hp1 (all := keepOwn hp (fzP hp pv).2.2) (fun id hi ho => keepOwn_mem.2 ⟨hi, ho⟩) hl hv
        obtain ⟨v, w', c, h1, h2, h3⟩ := sBS_spec htt hb hp2 (wh_frz hw (fzP hp pv).2.2).below.size (wh_frz hw (fzP hp pv).2.2).froz hfr g1 g2
        refine ⟨v, w', _, h1, h2, ?_⟩
        have := fr_comp hw.froz h3 (fun id x hx => by rw [hst] at hx; simp [look] at hx) ((fzP hp pv).2.1 ++ e'.vc)
        rw [hst, List.append_nil] at this
        exact this
      · cases h
    · cases h
/-- Stored into a row of one's own: rows of one's own lie still from then on. -/
def sStoreF (tt : TT) (hp : Heap) (T e : TypeId) (id i j : Nat) (v : V1) : Option Eff := match sStoreE tt hp T e id i j v with
  | some e => some e
  | none => (match fzV hp v with
    | (v', ps, ids) => (match sStoreE tt (kills (keepOwn hp ids) ++ hp) T e id i j v' with
      | some ef => some { ef with vc := ps ++ ef.vc, st := kills (keepOwn hp ids) ++ ef.st }
      | none => none))
theorem sStoreE_val {tt : TT} {hp : Heap} {T e : TypeId} {id i j : Nat} {v : V1} {ef : Eff} (h : sStoreE tt hp T e id i j v = some ef) : ef.val = .tup [] ∧ ∃ x, ef.st = [(id, x)] ∧ ∃ y, look hp id = some y ∧ y.isOwn = true := by
  unfold sStoreE at h
  split at h
  · rename_i hl _
    split at h
    · split at h
      · obtain rfl := by simpa using h
        exact ⟨rfl, _, rfl, _, hl, rfl⟩
      · cases h
    · cases h
  · cases h
theorem sStoreF_spec {P : Program} {tt : TT} (htt : TTOK P tt) {hp : Heap} {T e : TypeId} {id i j : Nat} {v : V1} {ef : Eff} (h : sStoreF tt hp T e id i j v = some ef) (hvc : All ef.vc) {ρ : Map} {w0 : W0} {w : World} (hw : WH w0 ρ hp w) {pv x : Value} (hp' : CRel ρ (.optr e id i j) pv) (hx : V1Rel ρ v x) :
    ∃ a w' ρ', pv = .pointer (some a) ∧ (storeVar T a x).run P w = .ok () w' ∧ UR ρ' ef.val undef ∧ Fr w0.heap.size ρ ρ' w w' ef := by
  unfold sStoreF at h
  split at h
  · rename_i e' hb
    simp only [Option.some.injEq] at h
    subst h
    obtain ⟨a, w', g1, g2, _, g4⟩ := sStoreE_spec htt hb hvc hw hp' hx
    exact ⟨a, w', ρ, g1, g2, by rw [(sStoreE_val hb).1]; exact ⟨#[], rfl, trivial⟩, g4⟩
  · dsimp only at h
    split at h
    · rename_i e' hb
      obtain rfl := by simpa using h
      obtain ⟨hp1, hp2⟩ := all_append.1 hvc
      have hw1 := wh_frz hw (fzV hp v).2.2
      have hp1' : CRel (ρ.frz w (keepOwn hp (fzV hp v).2.2)) (.optr e id i j) pv := hp'
      obtain ⟨a, w', g1, g2, _, g4⟩ := sStoreE_spec htt hb hp2 hw1 hp1' (fzV_spec hw v hp1 (all := keepOwn hp (fzV hp v).2.2) (fun i hi ho => keepOwn_mem.2 ⟨hi, ho⟩) hx)
      obtain ⟨q1, y, q2, z, q3, q4⟩ := sStoreE_val hb
      refine ⟨a, w', _, g1, g2, by rw [show ({ e' with vc := (fzV hp v).2.1 ++ e'.vc, st := kills (keepOwn hp (fzV hp v).2.2) ++ e'.st } : Eff).val = _ from q1]; exact ⟨#[], rfl, trivial⟩, fr_comp hw.froz g4 (fun k x' hx' hs => ?_) _⟩
      rw [q2] at hx'
      simp only [look] at hx'
      split at hx'
      · rename_i hk
        obtain rfl : id = k := by simpa using hk
        exact (erel_some (hw1.ents _ _ q3) q4 hs).1.2
      · cases hx'
    · cases h
end Go.Proofs.Ytbhbjhejkamlnaa.Sx
