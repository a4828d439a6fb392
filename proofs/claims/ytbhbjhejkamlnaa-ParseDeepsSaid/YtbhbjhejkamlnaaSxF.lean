/-
  All operations that change no memory, together.
-/
import Derived.Test.YtbhbjhejkamlnaaSxE
namespace Go.Proofs.Ytbhbjhejkamlnaa.Sx
open Go.RowKit

def V1.segs : V1 → List Seg | .sc c => [.c c] | .agg l => l
def okSc : SC → Bool
  | .raw (.agg _) | .raw (.tuple _) => false
  | _ => true
def okSegs : List Seg → Bool
  | [] => true
  | .c x :: r => okSc x && okSegs r
  | .ints .. :: r => okSegs r
def V1.ok : V1 → Bool | .sc c => okSc c | .agg _ => true
theorem okSc_one {ρ : Map} {c : SC} {v : Value} (h : CRel ρ c v) (ho : okSc c = true) : v.oneCell' = true ∧ v.cells = #[v] := by
  cases c with
  | int k n => obtain rfl : v = _ := h; exact ⟨rfl, rfl⟩
  | bool b => obtain rfl : v = _ := h; exact ⟨rfl, rfl⟩
  | ptr id o => obtain ⟨_, rfl⟩ := h; exact ⟨rfl, rfl⟩
  | slice id o l => obtain ⟨A, c, rfl, _⟩ := h; exact ⟨rfl, rfl⟩
  | nils => obtain rfl : v = _ := h; exact ⟨rfl, rfl⟩
  | rows e d =>
    have h' : TRel ρ.fz (.slice e) d v := h
    cases h' <;> exact ⟨rfl, rfl⟩
  | fp e d i j => obtain ⟨b, o, rfl, _⟩ := h; exact ⟨rfl, rfl⟩
  | osl e id lo n => obtain ⟨A, c, rfl, _⟩ := h; exact ⟨rfl, rfl⟩
  | optr e id i j => obtain ⟨_, rfl⟩ := h; exact ⟨rfl, rfl⟩
  | fn ag e p ok => obtain ⟨_, _, g, cap, rfl, _⟩ := h; exact ⟨rfl, rfl⟩
  | bm g id => obtain ⟨_, rfl⟩ := h; exact ⟨rfl, rfl⟩
  | raw x =>
    obtain rfl : v = x := h
    cases v <;> first | exact ⟨rfl, rfl⟩ | (simp [okSc] at ho)
theorem v1_cells {ρ : Map} {x : V1} {v : Value} (h : V1Rel ρ x v) (ho : x.ok = true) : CsRel ρ (cellsOf x.segs) v.cells.toList := by
  cases x with
  | sc c =>
    rw [(okSc_one h ho).2]
    refine ⟨rfl, fun i y u hy hu => ?_⟩
    cases i with
    | zero => simp [V1.segs, cellsOf, Seg.cells] at hy hu; subst hy hu; exact h
    | succ i => simp at hu
  | agg l => obtain ⟨cs, rfl, hc⟩ := h; exact hc

theorem foldl_over : ∀ (us : List Value) (k off : Nat) (cells : Array Value), off + k + us.length ≤ cells.size →
    ((us.zipIdx k).foldl (fun cs (c, j) => cs.setIfInBounds (off + j) c) cells).toList = over cells.toList (off + k) us
  | [], k, off, cells, h => by simp [over_nil]
  | u :: us, k, off, cells, h => by
    simp only [List.zipIdx_cons, List.foldl_cons]
    simp only [List.length_cons] at h
    rw [foldl_over us (k + 1) off _ (by simp; omega)]
    have e : u :: us = [u] ++ us := rfl
    rw [e, ← over_over (by simp; omega)]
    have e2 : (cells.setIfInBounds (off + k) u).toList = over cells.toList (off + k) [u] := by
      apply List.ext_getElem?
      intro j
      rw [over_get (by simp; omega), Array.toList_setIfInBounds, List.getElem?_set]
      by_cases hj : off + k = j
      · subst hj
        have h0 : off + k < cells.size := by omega
        rw [if_pos rfl, if_pos (show off + k < cells.toList.length by simpa using h0), if_pos ⟨Nat.le_refl _, by simp⟩]
        simp
      · rw [if_neg hj, if_neg (by simp; omega)]
    rw [e2]
    rfl
def fillS (place : Nat → Option (Nat × Nat)) (l : List Seg) : List (Nat × SV) → Option (List Seg × List Prop)
  | [] => some (l, [])
  | (i, .one x) :: r => match place i with
    | some (off, size) => (match wr1 l (.lit off) x.segs with
      | some (l', ps) => if x.ok && Nat.beq ((x.segs.map fun s => (s.sz).getD 0).sum) size then
          (match fillS place l' r with | some (l'', qs) => some (l'', ps ++ qs) | none => none) else none
      | none => none)
    | none => none
  | _ :: _ => none
theorem wrs_szs : ∀ (ss l : List Seg) (o : SO) r, wrs l o ss = some r → (cellsOf ss).length = (ss.map fun s => (s.sz).getD 0).sum
  | [], _, _, _, _ => by simp [cellsOf]
  | s :: ss, l, o, r, h => by
    simp only [wrs] at h
    split at h
    · rename_i l1 ps1 n hw hn
      split at h
      · rename_i l2 qs hr
        rw [cellsOf_cons, List.length_append, Seg.sz_spec hn, wrs_szs ss _ _ _ hr]
        simp [hn]
      · cases h
    · cases h
theorem fillS_spec {ρ : Map} {place : Nat → Option (Nat × Nat)} : ∀ (pv : List (Nat × SV)) (vs : List (Nat × Value)) (l l' : List Seg) (ps : List Prop) (cells : Array Value), fillS place l pv = some (l', ps) → All ps →
    pv.length = vs.length → (∀ (i : Nat) a b, pv[i]? = some a → vs[i]? = some b → a.1 = b.1 ∧ UR ρ a.2 b.2) → CsRel ρ (cellsOf l) cells.toList → ∃ cells', Instr.fill place cells vs = some cells' ∧ CsRel ρ (cellsOf l') cells'.toList
  | [], [], l, l', ps, cells, h, hp, hl, hv, hc => by
    simp only [fillS, Option.some.injEq, Prod.mk.injEq] at h
    obtain ⟨rfl, rfl⟩ := h
    exact ⟨cells, rfl, hc⟩
  | [], _ :: _, l, l', ps, cells, h, hp, hl, hv, hc => by simp at hl
  | _ :: _, [], l, l', ps, cells, h, hp, hl, hv, hc => by simp at hl
  | (i, sv) :: pv, (j, v) :: vs, l, l', ps, cells, h, hp, hl, hv, hc => by
    cases sv with
    | tup => simp [fillS] at h
    | cond => simp [fillS] at h
    | junk => simp [fillS] at h
    | one x =>
      simp only [fillS] at h
      split at h
      · rename_i off size hpl
        split at h
        · rename_i l1 ps1 hw
          split at h
          · rename_i hok
            simp only [Bool.and_eq_true] at hok
            split at h
            · rename_i l2 qs hr
              simp only [Option.some.injEq, Prod.mk.injEq] at h
              obtain ⟨rfl, rfl⟩ := h
              obtain ⟨hp1, hp2⟩ := all_append.1 hp
              obtain ⟨hij, hx⟩ := hv 0 (i, .one x) (j, v) rfl rfl
              dsimp only at hij hx
              subst hij
              have hcx := v1_cells hx hok.1
              obtain ⟨hb, hc1⟩ := wrs_rel hw hp1 hc hcx
              have hsz : v.cells.size = size := by
                have h1 := hcx.1
                have h2 : (cellsOf x.segs).length = (x.segs.map fun s => (s.sz).getD 0).sum := by
                  cases hs : x.segs with
                  | nil => simp [cellsOf]
                  | cons s r => rw [hs] at hw; exact wrs_szs _ _ _ _ hw
                have h3 := Nat.eq_of_beq_eq_true hok.2
                simp at h1
                omega
              have hb' : off + v.cells.size ≤ cells.size := by simpa [SO.v] using hb
              have hfo := foldl_over v.cells.toList 0 off cells (by simpa using hb')
              have hc2 : CsRel ρ (cellsOf l1) (v.cells.zipIdx.foldl (fun cs (c, j) => cs.setIfInBounds (off + j) c) cells).toList := by
                rw [← Array.foldl_toList, Array.toList_zipIdx, hfo]
                exact hc1
              obtain ⟨cells', h1, h2⟩ := fillS_spec pv vs l1 _ qs _ hr hp2 (by simpa using hl) (fun m a b ha hb => hv (m + 1) a b ha hb) hc2
              refine ⟨cells', ?_, h2⟩
              simp only [Instr.fill, hpl]
              rw [if_neg (by simp [hsz]; omega)]
              exact h1
            · cases h
          · cases h
        · cases h
      · cases h

def evp (ev : Operand → Option SV) : List (Nat × Operand) → Option (List (Nat × SV))
  | [] => some []
  | (i, x) :: r => match ev x, evp ev r with | some a, some l => some ((i, a) :: l) | _, _ => none
theorem evp_spec {ρ : Map} {E : Operand → Value} {ev : Operand → Option SV} (hE : EvOK ρ E ev) : ∀ (l : List (Nat × Operand)) pv, evp ev l = some pv → pv.length = (l.map fun (i, x) => (i, E x)).length ∧ ∀ (i : Nat) a b, pv[i]? = some a → (l.map fun (i, x) => (i, E x))[i]? = some b → a.1 = b.1 ∧ UR ρ a.2 b.2
  | [], pv, h => by
    simp only [evp, Option.some.injEq] at h
    subst h
    exact ⟨rfl, fun i a b ha => by simp at ha⟩
  | (j, x) :: r, pv, h => by
    simp only [evp] at h
    split at h
    · rename_i a l hx hr
      obtain rfl := by simpa using h
      obtain ⟨h1, h2⟩ := evp_spec hE r l hr
      refine ⟨by simp [h1], fun i a' b' ha hb => ?_⟩
      cases i with
      | zero => simp at ha hb; subst ha hb; exact ⟨rfl, hE x _ hx⟩
      | succ i => exact h2 i a' b' (by simpa using ha) (by simpa using hb)
    · cases h
def fieldsIn (tt : TT) (fs : List (TypeId × Nat)) : Bool := fs.all fun f => (szT tt f.1).isSome
def placeF (tt : TT) (fs : List (TypeId × Nat)) (i : Nat) : Option (Nat × Nat) := match fs[i]? with | some f => (match szT tt f.1 with | some n => some (f.2, n) | none => none) | none => none
theorem run_sizeOf {P : Program} {t : TypeId} {i : TypeInfo} (h : P.info? t = some i) (w : World) : (sizeOf t).run P w = .ok i.size w := by
  simp [sizeOf, typeInfo, h]
theorem run_places {P : Program} (w : World) : ∀ (fs : List Field), (∀ f ∈ fs, (P.info? f.type).isSome = true) → (fs.mapM fun f => do pure (f.offset, ← sizeOf f.type) : Sem (List (Nat × Nat))).run P w = .ok (fs.map fun f => (f.offset, ((P.info? f.type).map (·.size)).getD 0)) w
  | [], _ => rfl
  | f :: fs, h => by
    have ih := run_places w fs (fun g hg => h g (List.mem_cons_of_mem _ hg))
    have hf0 := h f (List.mem_cons_self ..)
    cases hf : P.info? f.type with
    | none => simp [hf] at hf0
    | some i =>
      simp only [List.mapM_cons, Sem.run_bind, run_sizeOf hf, Result.andThen_ok, Sem.run_pure]
      rw [ih]
      simp [hf]
/-- A struct or an array put together of zeros and parts. -/
def sBuild (tt : TT) (t : TypeId) (pv : List (Nat × SV)) : Option (V1 × List Prop) :=
  match zeroT tt t with
  | some l => (match uD tt t with
    | some (.struct fs) => if fieldsIn tt fs then (match fillS (placeF tt fs) l pv with | some (l', ps) => some (.agg l', ps) | none => none) else none
    | some (.array _ e) => (match szT tt e with | some x => (match fillS (fun i => some (i * x, x)) l pv with | some (l', ps) => some (.agg l', ps) | none => none) | none => none)
    | _ => none)
  | none => none
theorem sBuild_spec {P : Program} {tt : TT} (htt : TTOK P tt) {t : TypeId} {pv : List (Nat × SV)} {x : V1} {ps : List Prop} (h : sBuild tt t pv = some (x, ps)) (hp : All ps) {ρ : Map} {parts : Array (Nat × Value)} (hl : pv.length = parts.toList.length)
    (hv : ∀ (i : Nat) a b, pv[i]? = some a → parts.toList[i]? = some b → a.1 = b.1 ∧ UR ρ a.2 b.2) (w : World) : ∃ v, (Instr.build t parts).run P w = .ok v w ∧ V1Rel ρ x v := by
  unfold sBuild at h
  split at h
  · rename_i l hof
    obtain ⟨i, z, hi, hz, hc⟩ := tt_zero htt hof
    have hzv : (zeroValue t).run P w = .ok z w := by simp [zeroValue, typeInfo, hi, hz]
    split at h
    · rename_i fs0 hu
      obtain ⟨d, hu, hd⟩ := tt_u htt hu
      obtain ⟨fs, rfl, hfs⟩ := u_struct hd
      split at h
      · rename_i hin
        split at h
        · rename_i l' ps' hf
          obtain ⟨rfl, rfl⟩ := by simpa using h
          have hsome : ∀ f ∈ fs.toList, ∃ n q, szT tt f.type = some n ∧ P.info? f.type = some q ∧ q.size = n := fun f hfm => by
            have h1 := List.all_eq_true.1 hin (f.type, f.offset) (by rw [← hfs]; exact List.mem_map.2 ⟨f, hfm, rfl⟩)
            obtain ⟨n, hn⟩ := Option.isSome_iff_exists.1 h1
            obtain ⟨q, hq, hqs⟩ := tt_sz htt hn
            exact ⟨n, q, hn, hq, hqs⟩
          have hpl : (fun i => ((fs.map fun f => (f.offset, ((P.info? f.type).map (·.size)).getD 0)) : Array (Nat × Nat))[i]?) = placeF tt fs0 := by
            funext j
            simp only [placeF, Array.getElem?_map, ← hfs, List.getElem?_map, Array.getElem?_toList]
            cases hj : fs[j]? with
            | none => rfl
            | some f =>
              obtain ⟨n, q, h1, h2, h3⟩ := hsome f (Array.mem_toList_iff.2 (Array.mem_of_getElem? hj))
              simp [h1, h2, h3]
          obtain ⟨cells', h1, h2⟩ := fillS_spec pv parts.toList l l' _ z.cells hf hp hl hv (hc ρ)
          refine ⟨.agg cells', ?_, cells', rfl, h2⟩
          have hm : (fs.mapM fun f => do pure (f.offset, ← sizeOf f.type) : Sem (Array (Nat × Nat))).run P w = .ok (fs.map fun f => (f.offset, ((P.info? f.type).map (·.size)).getD 0)) w := by
            rw [← Array.toArray_toList (xs := fs), List.mapM_toArray, Sem.run_map, run_places w fs.toList (fun f hfm => by obtain ⟨n, q, _, h5, _⟩ := hsome f hfm; rw [h5]; rfl)]
            simp only [Result.andThen_ok]
            congr 1
            apply Array.toList_inj.1
            simp
          simp only [Instr.build, Sem.run_bind, hzv, Result.andThen_ok, run_underlying hu]
          rw [hm]
          simp only [Result.andThen_ok]
          rw [hpl, h1]
          rfl
        · cases h
      · cases h
    · rename_i n e hu
      obtain ⟨d, hu, hd⟩ := tt_u htt hu
      obtain rfl := u_array hd
      split at h
      · rename_i q hq
        obtain ⟨q', hq', rfl⟩ := tt_sz htt hq
        split at h
        · rename_i l' ps' hf
          obtain ⟨rfl, rfl⟩ := by simpa using h
          obtain ⟨cells', h1, h2⟩ := fillS_spec pv parts.toList l l' _ z.cells hf hp hl hv (hc ρ)
          refine ⟨.agg cells', ?_, cells', rfl, h2⟩
          simp only [Instr.build, Sem.run_bind, hzv, Result.andThen_ok, run_underlying hu, run_sizeOf hq']
          rw [h1]
          rfl
        · cases h
      · cases h
    · cases h
  · cases h
end Go.Proofs.Ytbhbjhejkamlnaa.Sx
