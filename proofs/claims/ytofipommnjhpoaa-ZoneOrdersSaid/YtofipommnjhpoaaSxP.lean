/-
  A function's contract, out of its body.
-/
import Derived.Test.YtofipommnjhpoaaSxO
namespace Go.Proofs.Ytofipommnjhpoaa.Sx
open Go.RowKit

theorem crel_in {ρ ρ' : Map} {g : List Nat} (ha : ∀ id, nin id g = true → ρ' id = ρ id) {x : SC} (hx : scIn g x = true) {v : Value} (h : CRel ρ x v) : CRel ρ' x v := by
  have hat : ∀ id, nin id g = true → ∀ o, ρ'.at id o = ρ.at id o := fun id hi o => by simp [Map.at, Map.blk, Map.off, ha id hi]
  cases x with
  | ptr id o => obtain ⟨h0, rfl⟩ := h; exact ⟨by rw [ha id hx]; exact h0, by rw [hat id hx]⟩
  | slice id o n =>
    obtain ⟨A, c, rfl, hc, hA⟩ := h
    exact ⟨A, c, rfl, hc, by rw [ha id hx, hat id hx]; exact hA⟩
  | _ => exact h
theorem segsIn_mem {g : List Nat} : ∀ {l : List Seg}, segsIn g l = true → ∀ x ∈ cellsOf l, scIn g x = true
  | [], _, x, h => by simp [cellsOf] at h
  | .c y :: r, hp, x, h => by
    simp only [segsIn, Bool.and_eq_true] at hp
    rw [cellsOf_cons, List.mem_append] at h
    rcases h with h | h
    · simp only [Seg.cells, List.mem_singleton] at h; subst h; exact hp.1
    · exact segsIn_mem hp.2 x h
  | .ints k n f :: r, hp, x, h => by
    rw [cellsOf_cons, List.mem_append] at h
    rcases h with h | h
    · simp only [Seg.cells, List.mem_map] at h
      obtain ⟨o, _, rfl⟩ := h; rfl
    · exact segsIn_mem (l := r) hp x h
theorem csrel_in {ρ ρ' : Map} {g : List Nat} (ha : ∀ id, nin id g = true → ρ' id = ρ id) {l : List Seg} (hx : segsIn g l = true) {vs : List Value} (h : CsRel ρ (cellsOf l) vs) : CsRel ρ' (cellsOf l) vs :=
  ⟨h.1, fun i x v h1 h2 => crel_in ha (segsIn_mem hx x (List.mem_of_getElem? h1)) (h.2 i x v h1 h2)⟩
theorem v1_in {ρ ρ' : Map} {g : List Nat} (ha : ∀ id, nin id g = true → ρ' id = ρ id) {x : V1} (hx : v1In g x = true) {v : Value} (h : V1Rel ρ x v) : V1Rel ρ' x v := by
  cases x with
  | sc c => exact crel_in ha hx h
  | agg l => obtain ⟨cs, rfl, hc⟩ := h; exact ⟨cs, rfl, csrel_in ha hx hc⟩
theorem tup_in {ρ ρ' : Map} {g : List Nat} (ha : ∀ id, nin id g = true → ρ' id = ρ id) : ∀ {l : List V1} {vs : List Value}, l.all (v1In g) = true → TupRel ρ l vs → TupRel ρ' l vs
  | [], [], _, _ => trivial
  | [], _ :: _, _, h => h.elim
  | _ :: _, [], _, h => h.elim
  | x :: l, v :: vs, hx, h => by
    simp only [List.all_cons, Bool.and_eq_true] at hx
    exact ⟨v1_in ha hx.1 h.1, tup_in ha hx.2 h.2⟩
theorem ur_in {ρ ρ' : Map} {g : List Nat} (ha : ∀ id, nin id g = true → ρ' id = ρ id) {x : SV} (hx : svIn g x = true) {v : Value} (h : UR ρ x v) : UR ρ' x v := by
  cases x with
  | one x => exact v1_in ha hx h
  | tup l => obtain ⟨vs, rfl, ht⟩ := h; exact ⟨vs, rfl, tup_in ha hx ht⟩
  | cond => cases hx
  | junk => cases hx
theorem newOK_spec {g : List Nat} {fr : Nat} : ∀ {h : Heap}, newOK g fr h = true → ∀ id x, look h id = some x → x.isOwn = true ∧ fr ≤ id ∧ id < fr + 8 ∧ ∃ l, x.segs = some l ∧ segsIn g l = true
  | [], _, id, x, h => by simp [look] at h
  | (i, e) :: r, hk, id, x, h => by
    simp only [look] at h
    cases e with
    | own T l =>
      simp only [newOK, Bool.and_eq_true] at hk
      split at h
      · rename_i hj
        obtain rfl : i = id := by simpa using hj
        obtain rfl := by simpa using h
        exact ⟨rfl, Nat.le_of_ble_eq_true hk.1.1.1, by simpa [Nat.blt_eq] using hk.1.1.2, l, rfl, hk.1.2⟩
      · exact newOK_spec hk.2 id x h
    | row T l =>
      simp only [newOK, Bool.and_eq_true] at hk
      split at h
      · rename_i hj
        obtain rfl : i = id := by simpa using hj
        obtain rfl := by simpa using h
        exact ⟨rfl, Nat.le_of_ble_eq_true hk.1.1.1, by simpa [Nat.blt_eq] using hk.1.1.2, l, rfl, hk.1.2⟩
      · exact newOK_spec hk.2 id x h
    | ro l => cases hk
    | gone => cases hk
theorem nin_keys {h : Heap} {id : Nat} : nin id (keys h) = true ↔ (look h id).isSome = true := by
  induction h with
  | nil => simp [nin, keys, look]
  | cons p r ih =>
    obtain ⟨j, x⟩ := p
    simp only [keys, List.map_cons, nin, List.any_cons, Bool.or_eq_true, look]
    by_cases hj : j = id
    · subst hj; simp
    · have h1 : (j == id) = false := by simpa using hj
      have h2 : Nat.beq id j = false := by
        cases hb : Nat.beq id j with
        | false => rfl
        | true => exact absurd (Nat.eq_of_beq_eq_true hb).symm hj
      rw [h1, h2]
      simpa [nin, keys] using ih
theorem erel_in {B B' : Nat} {ρ ρ' : Map} {g : List Nat} (ha : ∀ id, nin id g = true → ρ' id = ρ id) {w : World} {id : Nat} {x : Ent} (hid : nin id g = true) {l : List Seg} (hl : x.segs = some l) (hs : segsIn g l = true) (ho : x.isOwn = true) (hB : B' ≤ B) (h : ERel B ρ w id x) : ERel B' ρ' w id x := by
  have hb : ρ'.blk id = ρ.blk id := by simp [Map.blk, ha id hid]
  have hf : ρ'.off id = ρ.off id := by simp [Map.off, ha id hid]
  cases x with
  | own T m =>
    obtain rfl : m = l := by simpa [Ent.segs] using hl
    obtain ⟨a, b, c, vs, d, e⟩ := h
    exact ⟨by rw [ha id hid]; exact a, by rw [hf]; exact b, by rw [hb]; omega, vs, csrel_in ha hs d, by rw [hb]; exact e⟩
  | row T m =>
    obtain rfl : m = l := by simpa [Ent.segs] using hl
    obtain ⟨a, b, c, vs, r, d, e⟩ := h
    exact ⟨by rw [ha id hid]; exact a, by rw [hf]; exact b, by rw [hb]; omega, vs, r, csrel_in ha hs d, by rw [hb]; exact e⟩
  | ro m => cases ho
  | gone => cases ho

theorem resV_spec {P : Program} {tt : TT} (htt : TTOK P tt) {s : St} {r : ResultVar} {x : V1} {ps : List Prop} (h : resV tt s r = some (x, ps)) (hp : All ps) {w0 w : World} {nt : Nat} {ρ : Map} {a : Act} (hs : SH w0 nt s ρ a w) :
    ∃ v, ((match r with | .tmp t => pure (a.tmps.getD t undef) | .cell t T => do loadVar T (← asAddr (a.tmps.getD t undef))) : Sem Value).run P w = .ok v w ∧ V1Rel ρ x v := by
  cases r with
  | tmp t =>
    simp only [resV] at h
    split at h
    · rename_i y hy
      obtain ⟨rfl, rfl⟩ := by simpa using h
      exact ⟨_, rfl, hs.slots.slots t _ hy⟩
    · cases h
  | cell t T =>
    simp only [resV] at h
    split at h
    · rename_i id o hl
      obtain ⟨hi, hv⟩ := hs.slots.slots t _ hl
      obtain ⟨v, h1, h2⟩ := ldV_spec htt h hp hs.mem
      refine ⟨v, ?_, h2⟩
      simp only [hv, asAddr, Sem.run_bind, Sem.run_pure, Result.andThen_ok, h1]
    · cases h
theorem resL_spec {P : Program} {tt : TT} (htt : TTOK P tt) {s : St} {w0 w : World} {nt : Nat} {ρ : Map} {a : Act} (hs : SH w0 nt s ρ a w) : ∀ (l : List ResultVar) (xs : List V1) (ps : List Prop), resL tt s l = some (xs, ps) → All ps →
    ∃ vs : List Value, (l.mapM fun | .tmp t => pure (a.tmps.getD t undef) | .cell t T => do loadVar T (← asAddr (a.tmps.getD t undef)) : Sem (List Value)).run P w = .ok vs w ∧ TupRel ρ xs vs ∧ xs.length = vs.length
  | [], xs, ps, h, _ => by
    simp only [resL, Option.some.injEq, Prod.mk.injEq] at h
    obtain ⟨rfl, rfl⟩ := h
    exact ⟨[], rfl, trivial, rfl⟩
  | r :: l, xs, ps, h, hp => by
    simp only [resL] at h
    split at h
    · rename_i x ps1 ys qs hx hr
      simp only [Option.some.injEq, Prod.mk.injEq] at h
      obtain ⟨rfl, rfl⟩ := h
      obtain ⟨hp1, hp2⟩ := all_append.1 hp
      obtain ⟨v, h1, h2⟩ := resV_spec htt hx hp1 hs
      obtain ⟨vs, h3, h4, h5⟩ := resL_spec htt hs l ys qs hr hp2
      refine ⟨v :: vs, ?_, ⟨h2, h4⟩, by simp [h5]⟩
      rw [List.mapM_cons, Sem.run_bind, h1]
      simp only [Result.andThen_ok, Sem.run_bind]
      rw [h3]
      rfl
    · cases h
theorem resS_spec {P : Program} {tt : TT} (htt : TTOK P tt) {s : St} {w0 w : World} {nt : Nat} {ρ : Map} {a : Act} (hs : SH w0 nt s ρ a w) {fn : Func} {x : SV} {ps : List Prop} (h : resS tt s fn.results.toList = some (x, ps)) (hp : All ps) :
    ∃ v, (results fn a.tmps).run P w = .ok v w ∧ UR ρ x v := by
  unfold resS at h
  have key : ∀ (xs : List V1) (qs : List Prop), resL tt s fn.results.toList = some (xs, qs) → All qs → ∃ vs : List Value, (results fn a.tmps).run P w = .ok (if h : vs.toArray.size = 1 then vs.toArray[0] else .tuple vs.toArray) w ∧ TupRel ρ xs vs ∧ xs.length = vs.length := fun xs qs hx hq => by
    obtain ⟨vs, h1, h2, h3⟩ := resL_spec htt hs _ xs qs hx hq
    refine ⟨vs, ?_, h2, h3⟩
    unfold results
    rw [← Array.toArray_toList (xs := fn.results), List.mapM_toArray, Sem.run_bind, Sem.run_map]
    erw [h1]
    rfl
  split at h
  · rename_i y qs hx
    obtain ⟨rfl, rfl⟩ := by simpa using h
    obtain ⟨vs, h1, h2, h3⟩ := key _ _ hx hp
    match vs, h3 with
    | [v], _ => exact ⟨v, by simpa using h1, h2.1⟩
  · rename_i xs qs hne hx
    obtain ⟨rfl, rfl⟩ := by simpa using h
    obtain ⟨vs, h1, h2, h3⟩ := key _ _ hx hp
    have hl : ¬ vs.toArray.size = 1 := by
      intro e
      have : xs.length = 1 := by rw [h3]; simpa using e
      match xs, this with
      | [y], _ => exact hne y rfl
    rw [dif_neg hl] at h1
    exact ⟨_, h1, vs.toArray, rfl, h2⟩
  · cases h
theorem slots0_look : ∀ (l : List SV) (i t : Nat) x, look (slots0 l i) t = some x → i ≤ t ∧ l[t - i]? = some x
  | [], i, t, x, h => by simp [slots0, look] at h
  | y :: l, i, t, x, h => by
    simp only [slots0, look] at h
    split at h
    · rename_i hj
      obtain rfl : i = t := by simpa using hj
      obtain rfl := by simpa using h
      simp
    · rename_i hj
      have hne : i ≠ t := by intro e; subst e; simp at hj
      obtain ⟨h1, h2⟩ := slots0_look l (i + 1) t x h
      refine ⟨by omega, ?_⟩
      have e : t - i = (t - (i + 1)) + 1 := by omega
      rw [e]; simpa using h2
theorem args_get {ρ : Map} : ∀ {l : List SV} {vs : List Value} {i : Nat} {x : SV}, ArgsRel ρ l vs → l[i]? = some x → ∃ v, vs[i]? = some v ∧ UR ρ x v
  | [], _, i, x, _, h => by simp at h
  | _ :: _, [], _, _, h, _ => h.elim
  | y :: l, v :: vs, i, x, h, hi => by
    cases i with
    | zero => simp at hi; subst hi; exact ⟨v, rfl, h.1⟩
    | succ i => simpa using args_get h.2 (by simpa using hi)
theorem args_len {ρ : Map} : ∀ {l : List SV} {vs : List Value}, ArgsRel ρ l vs → l.length = vs.length
  | [], [], _ => rfl
  | [], _ :: _, h => h.elim
  | _ :: _, [], h => h.elim
  | _ :: _, _ :: _, h => by simp [args_len h.2]
theorem unP_len : ∀ (aps : List AP) (ds : List Dat) (id : Nat) y h id', unP aps ds id = some (y, h, id') → y.length = aps.length
  | [], [], id, y, h, id', e => by simp only [unP, Option.some.injEq, Prod.mk.injEq] at e; rw [← e.1]; rfl
  | [], _ :: _, _, _, _, _, e => by simp [unP] at e
  | .sc a :: l, [], _, _, _, _, e => by simp [unP] at e
  | .sc a :: l, d :: ds, id, y, h, id', e => by
    simp only [unP] at e
    split at e
    · rename_i x h1 s h2 i2 _ hr
      simp only [Option.some.injEq, Prod.mk.injEq] at e
      rw [← e.1]; simp [unP_len l ds _ _ _ _ hr]
    · cases e
  | .agg g :: l, ds, id, y, h, id', e => by
    simp only [unP] at e
    split at e
    · rename_i x h1 ds' id1 hg
      split at e
      · rename_i s h2 i2 hr
        simp only [Option.some.injEq, Prod.mk.injEq] at e
        rw [← e.1]; simp [unP_len l ds' _ _ _ _ hr]
      · cases e
    · cases e
/-- **A function does as its contract says**, if that can be shown of its body. -/
theorem fn_ok {P : Program} {tt : TT} (htt : TTOK P tt) (hm : P.follows .mixedOrders = true) {f : FuncId} {fn : Func} {c : Code} (hf : P.funcs[f]? = some fn) (hb : fn.body = some c) (hen : ∀ (args : Array Value) (w : World), (callFunc f args).run P w = .ok (.enter f args) w)
    {A : List Dat → Ann} (hC : ∀ ds id, CtxOK P ((A ds).C id)) {aps : List AP} {spec : FSpec} (hn : Nat.ble aps.length fn.ntmps = true)
    (H : ∀ ds fr e svs h id, spec ds fr = some e → All e.vc → unP aps ds 0 = some (svs, h, id) → sx tt fn.ntmps (A ds) c (retK tt fn.results.toList e fr) { tm := slots0 svs 0, hp := h, nx := id }) : ConOK P f (con aps spec) := by
  refine ⟨hen, ?_⟩
  intro hp fr args e0 h0 hvc w0 w ρ vs hw hfr hargs
  unfold con at h0
  split at h0
  · rename_i ds ps hds
    split at h0
    · rename_i e he
      obtain rfl := by simpa using h0
      obtain ⟨hp1, hp2⟩ := all_append.1 hvc
      obtain ⟨svs, h, ρ1, id, hun, _, hin, hrel⟩ := unP_spec hw aps args ds ps hds hp1 vs hargs 0
      have hsx := H ds fr e svs h id he hp2 hun
      have hlen : vs.length ≤ fn.ntmps := by
        have h1 := unP_len aps ds 0 svs h id hun
        have h2 := args_len hrel
        have := Nat.le_of_ble_eq_true hn
        omega
      have hsz : (vs.toArray ++ Array.replicate (fn.ntmps - vs.toArray.size) undef).size = fn.ntmps := by simp; omega
      refine calls_of_wp hf hb ?_
      refine sx_spec htt hm (hC ds) (w0 := w) c _ _ hsx _ ?_ ρ1 _ w ⟨⟨hsz, rfl, ?_⟩, ⟨Below.refl _ _, fun i x hx => (hin.ents i x hx).1, fun i j x y hx _ ho => ?_⟩, fun i hi => hin.out i (.inr hi)⟩
      · intro ex xx s' ρ' a w' hex hk hs'
        have done : retK tt fn.results.toList e fr .ret s' → a.defers = [] ∧ ∃ v, (results fn a.tmps).run P w' = .ok v w' ∧ ∃ ρ'' u, Ending.returned v = .returned u ∧ UR ρ'' e.val u ∧ Fr w0.heap.size ρ ρ'' w w' { e with vc := ps ++ e.vc } := by
          intro hk
          simp only [retK] at hk
          split at hk
          · rename_i v qs hres
            rw [allK_iff] at hk
            obtain ⟨hq, hk⟩ := hk
            split at hk
            rename_i la lb hla hlb
            split at hk
            rename_i hok
            obtain ⟨hk1, hk2⟩ := all_append.1 (conj_all hk)
            have hle := svL_spec hla hk1
            have hhe := heapL_spec hlb hk2
            generalize mHeap s'.hp e.nw (mSV v e.val) = δ at *
            unfold endOK at hok
            simp only [Bool.and_eq_true] at hok
            obtain ⟨⟨⟨hinj, hnew⟩, hsv⟩, hst⟩ := hok
            obtain ⟨u, hu1, hu2⟩ := resS_spec htt hs' hres hq
            have hnj : e.val ≠ .junk := fun hj => by rw [hj] at hsv; cases hsv
            have hu3 := ur_le hle hu2 hnj
            have hw2 := (stLe_spec (δ := δ) (s := s') (t := { tm := [], hp := e.nw, nx := fr + 8 }) ⟨trivial, hhe, hinj⟩ hs').mem
            have hB : w0.heap.size ≤ w.heap.size := hw.below.size
            let ρ2 : Map := fun i => if nin i (keys e.nw) then (ρ'.ren δ (fr + 8)) i else ρ i
            have ag : ∀ i, nin i (keys e.nw) = true → ρ2 i = (ρ'.ren δ (fr + 8)) i := fun i hi => by simp only [ρ2]; rw [if_pos hi]
            have hst' : e.st = [] := by
              revert hst
              cases e.st with
              | nil => intro _; rfl
              | cons => intro hh; cases hh
            refine ⟨hs'.slots.defers, u, hu1, ρ2, u, rfl, ur_in ag hsv hu3, ?_⟩
            refine ⟨fun i p hi => ?_, fun i hi => ?_, hs'.mem.below.mono (Nat.zero_le _), fun b hb' _ => hs'.mem.below.block b hb', fun i x hx => ?_, fun i x hx => ?_, fun i j x y hx hy hne => ?_⟩
            · simp only [ρ2]
              rw [if_neg]
              · exact hi
              · intro hk'
                obtain ⟨x, hx⟩ := Option.isSome_iff_exists.1 (nin_keys.1 hk')
                rw [hfr i x hx] at hi; cases hi
            · have hi' : look e.nw i = none := hi
              simp only [ρ2]
              rw [if_neg]
              intro hk'
              rw [nin_keys, hi'] at hk'; cases hk'
            · have hx' : look e.st i = some x := hx
              rw [hst'] at hx'; simp [look] at hx'
            · have hx' : look e.nw i = some x := hx
              obtain ⟨ho, _, _, l, hl, hsl⟩ := newOK_spec hnew i x hx'
              have hki : nin i (keys e.nw) = true := nin_keys.2 (by rw [hx']; rfl)
              have her := hw2.ents i x hx'
              refine ⟨erel_in ag hki hl hsl ho hB her, ?_, ho⟩
              have hbl : ρ2.blk i = (ρ'.ren δ (fr + 8)).blk i := by simp [Map.blk, ag i hki]
              rw [hbl]
              exact (erel_some her ho).2.1
            · have hx' : look e.nw i = some x := hx
              have hy' : look e.nw j = some y := hy
              have hki : nin i (keys e.nw) = true := nin_keys.2 (by rw [hx']; rfl)
              have hkj : nin j (keys e.nw) = true := nin_keys.2 (by rw [hy']; rfl)
              have e1 : ρ2.blk i = (ρ'.ren δ (fr + 8)).blk i := by simp [Map.blk, ag i hki]
              have e2 : ρ2.blk j = (ρ'.ren δ (fr + 8)).blk j := by simp [Map.blk, ag j hkj]
              rw [e1, e2]
              exact hw2.apart i j x y hx' hy' (newOK_spec hnew i x hx').1 (newOK_spec hnew j y hy').1 hne
            · exact hk.elim
            · exact hk.elim
          · exact hk.elim
        cases ex with
        | normal => simp only [exOf, Option.some.injEq] at hex; subst hex; exact done hk
        | ret => simp only [exOf, Option.some.injEq] at hex; subst hex; exact done hk
        | exit i => simp only [exOf, Option.some.injEq] at hex; subst hex; exact hk.elim
        | goto l => cases hex
        | panic ch => cases hex
        | outgrown => cases hex
      · intro t x hx
        obtain ⟨_, h2⟩ := slots0_look svs 0 t x hx
        obtain ⟨v, hv, hr⟩ := args_get hrel (by simpa using h2)
        have hlt := lt_of_get hv
        have : (vs.toArray ++ Array.replicate (fn.ntmps - vs.toArray.size) undef).getD t undef = v := by
          simp only [Array.getD_eq_getD_getElem?]
          rw [Array.getElem?_append_left (by simpa using hlt)]
          simp [hv]
        rw [this]
        exact ur_vrel hr
      · have := (hin.ents i x hx).2.1
        rw [this] at ho; cases ho
    · cases h0
  · cases h0
end Go.Proofs.Ytofipommnjhpoaa.Sx
namespace Go.Proofs.Ytofipommnjhpoaa.Sx
open Go.RowKit
/-- What is to be shown of a body, for what the contract says of these data. -/
def Ob (tt : TT) (nt : Nat) (A : Ann) (c : Code) (rs : List ResultVar) (fr : Nat) : Option Eff → Option (List SV × Heap × Nat) → Prop
  | some e, some (svs, h, id) => AllI e.vc (sx tt nt A c (retK tt rs e fr) { tm := slots0 svs 0, hp := h, nx := id })
  | _, _ => True
theorem fn_ob {P : Program} {tt : TT} (htt : TTOK P tt) (hm : P.follows .mixedOrders = true) {f : FuncId} {fn : Func} {c : Code} (hf : P.funcs[f]? = some fn) (hb : fn.body = some c) (hen : ∀ (args : Array Value) (w : World), (callFunc f args).run P w = .ok (.enter f args) w)
    {A : List Dat → Ann} (hC : ∀ ds id, CtxOK P ((A ds).C id)) {aps : List AP} {spec : FSpec} (hn : Nat.ble aps.length fn.ntmps = true)
    (H : ∀ ds fr, Ob tt fn.ntmps (A ds) c fn.results.toList fr (spec ds fr) (unP aps ds 0)) : ConOK P f (con aps spec) :=
  fn_ok htt hm hf hb hen hC hn fun ds fr e svs h id he hvc hun => by
    have := H ds fr
    rw [he, hun] at this
    exact allI_iff.1 this hvc
theorem kmp {p q : Prop} (h : p = q) (hq : q) : p := h ▸ hq
/-- Contracts by function number. -/
def Cons.of : List (FuncId × Con) → Cons
  | [], _ => none
  | (f, c) :: r, g => if Nat.beq f g then some c else Cons.of r g
theorem cons_nil {P : Program} : CtxOK P (Cons.of []) := fun f c h => by cases h
theorem cons_cons {P : Program} {f : FuncId} {c : Con} {r : List (FuncId × Con)} (h : ConOK P f c) (k : CtxOK P (Cons.of r)) : CtxOK P (Cons.of ((f, c) :: r)) := fun g d hd => by
  simp only [Cons.of] at hd
  split at hd
  · rename_i hg
    obtain rfl := Nat.eq_of_beq_eq_true hg
    obtain rfl := by simpa using hd
    exact h
  · exact k g d hd
/-- The number that a slot holds. -/
def slotN (s : St) (t : Nat) : Nat := match look s.tm t with | some (.one (.sc (.int _ n))) => n.v.toNat | _ => 0
/-- The state at a loop's head: some slots new, others kept, one block new, others kept. -/
def fam (s : St) (sl : Slots) (ks : List Nat) (own : Nat) (e : Ent) (hs : List Nat) : St := { tm := sl ++ keepS s.tm ks, hp := (idOf s own, e) :: keepH s.hp (hs.map (idOf s)), nx := s.nx }
theorem wh_nil (w : World) : WH w (fun _ => none) [] w := ⟨Below.refl _ w, fun _ _ h => by simp [look] at h, fun _ _ _ _ h => by simp [look] at h⟩
/-- A law's answer, out of its contract. -/
theorem law_of {P : Program} {f : FuncId} {c : Con} (h : ConOK P f c) {hp : Heap} {args : List SV} {b : Bool} {vc : List Prop} (hc : c hp 0 args = some { val := .one (.sc (.bool (.sym b))), vc := vc }) (hv : All vc) {ρ : Map} {vs : List Value} {w : World} (hw : WH w ρ hp w) (ha : ArgsRel ρ args vs) :
    Calls P f vs.toArray w fun e w' => e = .returned (.bool b) ∧ Below w.heap.size w w' := by
  refine (h.calls hp 0 args _ hc hv w w ρ vs hw (fun _ _ h => by simp [look] at h) ha).mono ?_
  rintro en w' ⟨ρ', v, rfl, h1, h2⟩
  refine ⟨?_, h2.below.1, h2.below.2, h2.below.3, h2.below.size, fun k hk => h2.keep k hk fun _ _ h => by simp [look] at h⟩
  have : v = .bool b := h1
  rw [this]
end Go.Proofs.Ytofipommnjhpoaa.Sx
