/-
  Parts of values, values put together; all operations that change no memory.
-/
import Derived.Test.YtbhbjhejkamlnaaSxD
namespace Go.Proofs.Ytbhbjhejkamlnaa.Sx
open Go.RowKit

theorem lt_of_get {α : Type} {l : List α} {j : Nat} {x : α} (h : l[j]? = some x) : j < l.length := by
  rcases Nat.lt_or_ge j l.length with h' | h'
  · exact h'
  · rw [List.getElem?_eq_none h'] at h; cases h
/-- A part of a row, and its values. -/
theorem cs_sub {ρ : Map} {l s : List SC} {vs : List Value} {o : Nat} (hv : CsRel ρ l vs) (h2 : ∀ j x, s[j]? = some x → l[o + j]? = some x) :
    ((vs.drop o).take s.length).length = s.length ∧ CsRel ρ s ((vs.drop o).take s.length) := by
  have hl : ((vs.drop o).take s.length).length = s.length := by
    rcases Nat.eq_zero_or_pos s.length with h0 | h0
    · simp [h0]
    · have h3 := h2 (s.length - 1) _ (List.getElem?_eq_getElem (by omega))
      obtain ⟨v, hv', _⟩ := csrel_get hv h3
      have := lt_of_get hv'
      simp; omega
  refine ⟨hl, hl.symm, fun j x v hx hv' => ?_⟩
  have hj := lt_of_get hx
  rw [List.getElem?_take_of_lt hj, List.getElem?_drop] at hv'
  exact hv.2 _ _ _ (h2 j x hx) hv'
def partV (tt : TT) (l : List Seg) (T : TypeId) (o : SO) : Option (V1 × List Prop) :=
  match shapeT tt T with
  | some none => match getC l o with | some (x, ps) => some (.sc x, ps) | none => none
  | some (some L) => match rdL l o L with | some (s, ps) => some (.agg s, ps) | none => none
  | none => none
theorem isAgg_run {P : Program} {T : TypeId} {d : TypeDesc} (hd : P.underlying T = some d) (w : World) : (isAgg T).run P w = .ok (isAggD d) w := by
  unfold isAgg
  rw [Sem.run_bind, run_underlying hd w]
  cases d <;> simp [isAggD]
theorem partV_spec {P : Program} {tt : TT} (htt : TTOK P tt) {l : List Seg} {T : TypeId} {o : SO} {x : V1} {ps : List Prop} (h : partV tt l T o = some (x, ps)) (hps : All ps) {ρ : Map} {cs : Array Value} (hc : CsRel ρ (cellsOf l) cs.toList) (w : World) :
    ∃ v, (part T cs o.v).run P w = .ok v w ∧ V1Rel ρ x v := by
  unfold partV at h
  split at h
  · rename_i hsh
    obtain ⟨d, hd, hda⟩ := shapeOf_none (tt_shape htt hsh)
    split at h
    · rename_i y ps' hg
      obtain ⟨rfl, rfl⟩ := by simpa using h
      obtain ⟨v, hv, hr⟩ := csrel_get hc (getC_spec hg hps)
      refine ⟨v, ?_, hr⟩
      have hv' : cs[o.v]? = some v := by rw [← Array.getElem?_toList]; exact hv
      simp [part, isAgg_run hd, hda, hv']
    · cases h
  · rename_i LL hsh
    obtain ⟨d, i, hd, hda, hi, hsz⟩ := shapeOf_some (tt_shape htt hsh)
    split at h
    · rename_i s ps' hg
      obtain ⟨rfl, rfl⟩ := by simpa using h
      obtain ⟨h1, h2⟩ := rdL_spec l o LL s _ hg hps
      obtain ⟨h3, h4⟩ := cs_sub hc h2
      refine ⟨.agg (cs.extract o.v (o.v + i.size)), by simp [part, isAgg_run hd, hda, sizeOf, typeInfo, hi], _, rfl, ?_⟩
      rw [Array.toList_extract, List.extract_eq_take_drop]
      have e : o.v + i.size - o.v = (cellsOf s).length := by omega
      rw [e]
      exact h4
    · cases h
  · cases h

/-! ### Cells as a type says -/
def ofSc : Value → Option SC
  | .int k n => some (.int k (.lit n))
  | .bool b => some (.bool (.lit b))
  | .slice none 0 0 => some .nils
  | .agg _ => none
  | .tuple _ => none
  | v => some (.raw v)
theorem ofSc_spec {v : Value} {x : SC} (h : ofSc v = some x) (ρ : Map) : CRel ρ x v := by
  unfold ofSc at h
  split at h <;> first | (simp only [Option.some.injEq] at h; subst h; rfl) | (cases h; done)
def takeInts (k : IntKind) : Nat → List Value → Option (List Int × List Value)
  | 0, vs => some ([], vs)
  | n + 1, .int k' x :: vs => if kEq k k' then (match takeInts k n vs with | some (l, r) => some (x :: l, r) | none => none) else none
  | _ + 1, _ => none
theorem takeInts_spec {k : IntKind} : ∀ (n : Nat) (vs : List Value) l r, takeInts k n vs = some (l, r) → l.length = n ∧ vs = l.map (Value.int k) ++ r
  | 0, vs, l, r, h => by
    simp only [takeInts, Option.some.injEq, Prod.mk.injEq] at h
    obtain ⟨rfl, rfl⟩ := h
    simp
  | n + 1, [], l, r, h => by simp [takeInts] at h
  | n + 1, v :: vs, l, r, h => by
    cases v <;> simp only [takeInts] at h <;> first | (cases h; done) | skip
    rename_i k' x
    split at h
    · rename_i hk
      have := kEq_eq hk
      subst this
      split at h
      · rename_i l' r' ht
        obtain ⟨rfl, rfl⟩ := by simpa using h
        obtain ⟨h1, h2⟩ := takeInts_spec n vs l' _ ht
        exact ⟨by simp [h1], by simp [h2]⟩
      · cases h
    · cases h
def allZ : List Int → Bool | [] => true | x :: r => decide (x = 0) && allZ r
def fnOf (l : List Int) : Nat → Int := if allZ l then fun _ => 0 else fun j => l.getD j 0
theorem fnOf_spec (l : List Int) (j : Nat) (h : j < l.length) : fnOf l j = l[j] := by
  unfold fnOf
  split
  · rename_i hz
    have : ∀ (l : List Int), allZ l = true → ∀ j (h : j < l.length), l[j] = 0 := by
      intro l
      induction l with
      | nil => intro _ j h; simp at h
      | cons x r ih =>
        intro hz j h
        simp only [allZ, Bool.and_eq_true, decide_eq_true_eq] at hz
        cases j with
        | zero => simpa using hz.1
        | succ j => simpa using ih hz.2 j (by simpa using h)
    exact (this l hz j h).symm
  · simp [List.getD, List.getElem?_eq_getElem h]
def ofCells : List L → List Value → Option (List Seg)
  | [], [] => some []
  | .c :: r, v :: vs => match ofSc v, ofCells r vs with | some x, some s => some (.c x :: s) | _, _ => none
  | .ints k n :: r, vs => match takeInts k n vs with
    | some (l, vs') => (match ofCells r vs' with | some s => some (.ints k (.lit n) (fnOf l) :: s) | none => none)
    | none => none
  | _, _ => none
theorem csrel_append {ρ : Map} {a b : List SC} {x y : List Value} (h : CsRel ρ a x) (k : CsRel ρ b y) : CsRel ρ (a ++ b) (x ++ y) := by
  refine ⟨by simp [h.1, k.1], fun i c v hc hv => ?_⟩
  by_cases hi : i < a.length
  · rw [List.getElem?_append_left hi] at hc
    rw [List.getElem?_append_left (by rw [← h.1]; exact hi)] at hv
    exact h.2 i c v hc hv
  · rw [List.getElem?_append_right (by omega)] at hc
    rw [List.getElem?_append_right (by rw [← h.1]; omega), ← h.1] at hv
    exact k.2 _ c v hc hv
theorem csrel_ints {ρ : Map} {k : IntKind} {l : List Int} {f : Nat → Int} {n : SN} (hl : l.length = n.v) (hf : ∀ j (h : j < l.length), f j = l[j]) : CsRel ρ (Seg.ints k n f).cells (l.map (Value.int k)) := by
  refine ⟨by rw [cells_ints_len]; simp [hl], fun i c v hc hv => ?_⟩
  have hi := lt_of_get hv
  simp only [List.length_map] at hi
  rw [cells_ints_get (by omega)] at hc
  obtain rfl := by simpa using hc
  rw [List.getElem?_map, List.getElem?_eq_getElem hi] at hv
  obtain rfl := by simpa using hv
  simp [CRel, SI.v, hf i hi]
theorem ofCells_spec {ρ : Map} : ∀ (L : List L) (vs : List Value) s, ofCells L vs = some s → CsRel ρ (cellsOf s) vs
  | [], [], s, h => by
    simp only [ofCells, Option.some.injEq] at h
    subst h
    exact ⟨rfl, fun i c v hc hv => by simp [cellsOf] at hc⟩
  | [], _ :: _, s, h => by simp [ofCells] at h
  | .c :: r, [], s, h => by simp [ofCells] at h
  | .c :: r, v :: vs, s, h => by
    simp only [ofCells] at h
    split at h
    · rename_i x s' hx hs
      obtain rfl := by simpa using h
      rw [cellsOf_cons]
      have h1 := ofCells_spec (ρ := ρ) r vs s' hs
      have h2 : CsRel ρ [x] [v] := ⟨rfl, fun i c u hc hu => by
        cases i with
        | zero => simp at hc hu; subst hc hu; exact ofSc_spec hx ρ
        | succ i => simp at hc⟩
      exact csrel_append (a := [x]) (x := [v]) h2 h1
    · cases h
  | .ints k n :: r, vs, s, h => by
    simp only [ofCells] at h
    split at h
    · rename_i l vs' ht
      split at h
      · rename_i s' hs
        obtain rfl := by simpa using h
        obtain ⟨h1, rfl⟩ := takeInts_spec n vs l vs' ht
        rw [cellsOf_cons]
        exact csrel_append (csrel_ints (n := .lit n) h1 (fun j h => fnOf_spec l j h)) (ofCells_spec r vs' s' hs)
      · cases h
    · cases h

/-- The kinds of a type's cells, where its values can be held against each other. -/
def ckOf (P : Program) (t : TypeId) (u : TypeDesc) : Option CKs := if isAggD u && !P.eqGuardType P.depth t then kindsT P 9 t else none
/-- The table's row of a type. -/
def mkTI (P : Program) (ks : Option (List K)) (t : TypeId) : Option TI :=
  match P.underlying t, shapeOf P t, P.info? t with
  | some u, some sh, some q => (match q.zero with
    | some z => (match ofCells (sh.getD [.c]) z.cells.toList with | some l => some { u := uOf u, size := q.size, shape := sh, zero := l, ck := ckOf P t u, ks := ks, bytes := q.bytes } | none => none)
    | none => none)
  | _, _, _ => none
def ksOK (t : TypeId) (i : TI) : Prop := match i.ks with | some ks => eks t = ks ∧ Nat.beq ks.length i.size = true ∧ Nat.blt 0 i.size = true | none => True
theorem mkTI_ok {P : Program} {t : TypeId} {ks0 : Option (List K)} {i : TI} (hP : P = PG) (h : mkTI P ks0 t = some i) (hk0 : ksOK t i) : TIOK P t i := by
  unfold mkTI at h
  split at h
  · rename_i u sh q hu hs hq
    split at h
    · rename_i z hz
      split at h
      · rename_i l hl
        obtain rfl := by simpa using h
        refine ⟨⟨u, hu, rfl⟩, hs, ⟨q, z, hq, rfl, hz, rfl, fun ρ => ofCells_spec _ _ _ hl⟩, fun ks hk => ?_, fun ks hk => ?_, hP⟩
        dsimp only [ckOf] at hk
        split at hk
        · rename_i hb
          simp only [Bool.and_eq_true, Bool.not_eq_true'] at hb
          exact ⟨hb.2, hk, u, hu, hb.1⟩
        · cases hk
        · have hk : ks0 = some ks := hk
          subst hk
          exact ⟨hk0.1, Nat.eq_of_beq_eq_true hk0.2.1, by simpa [Nat.blt_eq] using hk0.2.2⟩
      · cases h
    · cases h
  · cases h
def ttAll (P : Program) : TT → Prop
  | [] => True
  | (t, i) :: r => mkTI P i.ks t = some i ∧ ksOK t i ∧ ttAll P r
theorem ttAll_ok {P : Program} (hP : P = PG) : ∀ {tt : TT}, ttAll P tt → TTOK P tt
  | [], _, t, i, h => by simp [look] at h
  | (j, x) :: r, ha, t, i, h => by
    simp only [look] at h
    split at h
    · rename_i hj
      obtain rfl : j = t := by simpa using hj
      obtain rfl := by simpa using h
      exact mkTI_ok hP ha.1 ha.2.1
    · exact ttAll_ok hP ha.2.2 t i h

/-! ### Parts written -/
def Seg.sz : Seg → Option Nat | .c _ => some 1 | .ints _ (.lit n) _ => some n | .ints _ (.sym _) _ => none
theorem Seg.sz_spec {s : Seg} {n : Nat} (h : s.sz = some n) : s.cells.length = n := by
  cases s with
  | c x => simp only [Seg.sz, Option.some.injEq] at h; subst h; rfl
  | ints k m f => cases m <;> simp only [Seg.sz, Option.some.injEq] at h <;> first | (cases h; done) | (subst h; rw [cells_ints_len]; rfl)
def wrs (l : List Seg) : SO → List Seg → Option (List Seg × List Prop)
  | _, [] => some (l, [])
  | o, s :: r => match wrC l o s, s.sz with
    | some (l', ps), some n => (match wrs l' (o.add n) r with | some (l'', qs) => some (l'', ps ++ qs) | none => none)
    | _, _ => none
theorem over_nil {α : Type} (l : List α) (o : Nat) : over l o [] = l := by simp [over]
theorem over_over {α : Type} {l a b : List α} {o : Nat} (h : o + a.length + b.length ≤ l.length) : over (over l o a) (o + a.length) b = over l o (a ++ b) := by
  apply List.ext_getElem?
  intro j
  rw [over_get (by rw [over_len (by omega)]; omega), over_get (by omega), over_get (by rw [List.length_append]; omega), List.length_append]
  by_cases h1 : o + a.length ≤ j ∧ j < o + a.length + b.length
  · rw [if_pos h1, if_pos (by omega), List.getElem?_append_right (by omega)]
    congr 1; omega
  · rw [if_neg h1]
    by_cases h2 : o ≤ j ∧ j < o + a.length
    · rw [if_pos h2, if_pos (by omega), List.getElem?_append_left (by omega)]
    · rw [if_neg h2, if_neg (by omega)]
theorem wrs_spec : ∀ (ss : List Seg) (l : List Seg) (o : SO) l' ps, wrs l o ss = some (l', ps) → All ps → o.v ≤ (cellsN l).length → o.v + (cellsN ss).length ≤ (cellsN l).length ∧ cellsN l' = over (cellsN l) o.v (cellsN ss)
  | [], l, o, l', ps, h, hp, hb => by
    simp only [wrs, Option.some.injEq, Prod.mk.injEq] at h
    obtain ⟨rfl, rfl⟩ := h
    refine ⟨by simpa [cellsN, cellsOf] using hb, ?_⟩
    simp [cellsN, cellsOf, over_nil]
  | s :: r, l, o, l', ps, h, hp, _ => by
    simp only [wrs] at h
    split at h
    · rename_i l1 ps1 n hw hn
      split at h
      · rename_i l2 qs hr
        simp only [Option.some.injEq, Prod.mk.injEq] at h
        obtain ⟨rfl, rfl⟩ := h
        obtain ⟨hp1, hp2⟩ := all_append.1 hp
        obtain ⟨h1, h2⟩ := wrC_spec hw hp1
        have hsz := Seg.sz_spec hn
        have e1 : (cellsN l1).length = (cellsN l).length := by rw [h2, over_len (by simpa using h1)]
        obtain ⟨h3, h4⟩ := wrs_spec r l1 _ l2 qs hr hp2 (by rw [SO.add_v]; omega)
        rw [SO.add_v] at h3 h4
        rw [cellsN_cons]
        refine ⟨by rw [List.length_append, List.length_map]; omega, ?_⟩
        rw [h4, h2]
        have := over_over (l := cellsN l) (a := s.cells.map SC.n) (b := cellsN r) (o := o.v) (by rw [List.length_map]; omega)
        rw [List.length_map, hsz] at this
        exact this
      · cases h
    · cases h
theorem csrel_over {ρ : Map} {a b : List SC} {x y : List Value} {o : Nat} (h : CsRel ρ a x) (k : CsRel ρ b y) (hle : o + b.length ≤ a.length) : CsRel ρ (over a o b) (over x o y) := by
  have h1 := h.1
  have k1 := k.1
  refine ⟨by rw [over_len hle, over_len (by omega)]; exact h1, fun i c v hc hv => ?_⟩
  rw [over_get hle] at hc
  rw [over_get (by omega)] at hv
  by_cases hi : o ≤ i ∧ i < o + b.length
  · rw [if_pos hi] at hc
    rw [if_pos (by omega)] at hv
    exact k.2 _ c v hc hv
  · rw [if_neg hi] at hc
    rw [if_neg (by omega)] at hv
    exact h.2 i c v hc hv
/-- .. of one part at least. -/
def wr1 (l : List Seg) (o : SO) : List Seg → Option (List Seg × List Prop)
  | [] => none
  | s :: r => wrs l o (s :: r)
theorem wrs_rel {ss l l' : List Seg} {o : SO} {ps : List Prop} (h : wr1 l o ss = some (l', ps)) (hp : All ps) {ρ : Map} {vs us : List Value} (hv : CsRel ρ (cellsOf l) vs) (hu : CsRel ρ (cellsOf ss) us) :
    o.v + us.length ≤ vs.length ∧ CsRel ρ (cellsOf l') (over vs o.v us) := by
  have hb : wrs l o ss = some (l', ps) ∧ o.v ≤ (cellsN l).length := by
    cases ss with
    | nil => cases h
    | cons s r =>
      refine ⟨h, ?_⟩
      simp only [wr1, wrs] at h
      split at h
      · rename_i l1 ps1 n hw hn
        split at h
        · simp only [Option.some.injEq, Prod.mk.injEq] at h
          obtain ⟨rfl, rfl⟩ := h
          have := (wrC_spec hw (all_append.1 hp).1).1
          omega
        · cases h
      · cases h
  obtain ⟨h1, h2⟩ := wrs_spec ss l o l' ps hb.1 hp hb.2
  rw [cellsN_len, cellsN_len] at h1
  refine ⟨by rw [← hu.1, ← hv.1]; exact h1, ?_⟩
  have := csrel_over (csrel_n.2 hv) (csrel_n.2 hu) (o := o.v) (by simpa using h1)
  unfold cellsN at h2
  rw [← h2] at this
  exact csrel_n.1 this
end Go.Proofs.Ytbhbjhejkamlnaa.Sx
