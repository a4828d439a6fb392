/-
  Operations that make or change memory; calls by what is known of them.
-/
import Derived.Test.YtbhbjhejkamlnaaSxX
namespace Go.Proofs.Ytbhbjhejkamlnaa.Sx
open Go.RowKit

/-- A function value that tells of an element, called. -/
def sFn (tt : TT) (ag : Bool) (e : TypeId) (p : List D → Bool) (ok : List D → Prop) : List SV → Option Eff
  | [x] => (match ksT tt e, ag, x with
    | some ks, true, .one (.agg l) => (match takeDs l ks with | some (ds, []) => some { val := .one (.sc (.bool (.sym (p ds)))), vc := [ok ds] } | _ => none)
    | some [k], false, .one (.sc x) => (match scD k x with | some d => some { val := .one (.sc (.bool (.sym (p [d])))), vc := [ok [d]] } | none => none)
    | _, _, _ => none)
  | _ => none
theorem sFn_spec {P : Program} {tt : TT} (htt : TTOK P tt) {ag : Bool} {e : TypeId} {p : List D → Bool} {ok : List D → Prop} {l : List SV} {ef : Eff} (h : sFn tt ag e p ok l = some ef) (hvc : All ef.vc) {ρ : Map} {hp : Heap} {w0 : W0} {w : World} (hw : WH w0 ρ hp w) {v : Value} (hv : CRel ρ (.fn ag e p ok) v) {vs : List Value} (ha : ArgsRel ρ l vs) :
    ∃ g cap, v = .func (.func g) #[] cap ∧ (∀ (args : Array Value) (w : World), (callFunc g args).run P w = .ok (.enter g args) w) ∧ Calls P g (vs.toArray ++ cap) w fun en w' => ∃ v', en = .returned v' ∧ UR ρ ef.val v' ∧ Fr w0.heap.size ρ ρ w w' ef := by
  obtain ⟨z, hz, g, cap, rfl, hen, hq⟩ := hv
  have key : ∀ (ks : List K) (ds : List D) (x : SV) (l' : List SV) (b : Bool), ksT tt e = some ks → l = x :: l' → l' = [] → (∀ u, UR ρ x u → ElVal ρ.fz ag e ds u) → b = p ds → ok ds → ef = { val := .one (.sc (.bool (.sym b))), vc := [ok ds] } →
      ∃ g' cap', Value.func (.func g) #[] cap = .func (.func g') #[] cap' ∧ (∀ (args : Array Value) (w : World), (callFunc g' args).run P w = .ok (.enter g' args) w) ∧ Calls P g' (vs.toArray ++ cap') w fun en w' => ∃ v', en = .returned v' ∧ UR ρ ef.val v' ∧ Fr w0.heap.size ρ ρ w w' ef := by
    intro ks ds x l' b hks hl hl' hx hb hok hef
    subst hl hl' hb hef
    obtain rfl := tt_pr htt hks
    match vs, ha with
    | [u], ha =>
      refine ⟨g, cap, rfl, hen, (hq w ρ.fz ds u hz hw.froz (hx u ha.1) hok).mono ?_⟩
      rintro en w' ⟨rfl, hb⟩
      refine ⟨_, rfl, rfl, Ext.refl ρ, fun _ _ => rfl, ⟨hb.os, hb.tape, hb.output, hb.size, fun k hk => absurd hk (Nat.not_lt_zero k)⟩, fun k hk _ => hb.block k hk, fun _ _ h => by simp [look] at h, fun _ _ h => by simp [look] at h, fun _ _ _ _ h => by simp [look] at h, fun _ _ h => .inl h⟩
  unfold sFn at h
  split at h
  · rename_i x
    split at h
    · rename_i ks l0 hks
      split at h
      · rename_i ds htk
        obtain rfl := by simpa using h
        refine key ks ds _ _ _ hks rfl rfl (fun u hu => ?_) rfl hvc.1 rfl
        obtain ⟨cs, rfl, hcs⟩ := hu
        obtain ⟨h1, h2, h3, h4⟩ := takeDs_spec _ _ _ _ htk _ hcs
        obtain ⟨he, _, _⟩ := tt_ks htt hks
        have hl := h4.1
        simp only [cellsOf, List.flatMap_nil, List.length_nil, List.length_drop] at hl
        exact ⟨cs.toList, by simp, by rw [he]; omega, fun j k hk => by rw [he] at hk; exact h3 j k hk⟩
      · cases h
    · rename_i k x0 hks
      split at h
      · rename_i d hd
        obtain rfl := by simpa using h
        obtain ⟨he, _, _⟩ := tt_ks htt hks
        exact key [k] [d] _ _ _ hks rfl rfl (fun u hu => ⟨k, he, scD_spec hd hu⟩) rfl hvc.1 rfl
      · cases h
    · cases h
  · cases h

def seff (tt : TT) (C : Cons) (hp : Heap) (ev : Operand → Option SV) (fr : Nat) (op : Op) : Option Eff :=
  match op with
  | .alloc T => (match zeroT tt T with
    | some l => some { val := .one (.sc (.ptr fr (.lit 0))), vc := [], nw := [(fr, .own T l)] }
    | none => none)
  | .box T x => (match ev x with
    | some (.one v) => if v.ok then some { val := .one (.sc (.ptr fr (.lit 0))), vc := [], nw := [(fr, .own T v.segs)] } else none
    | _ => none)
  | .store T a x => (match ev a, ev x with
    | some (.one (.sc (.ptr id o))), some (.one v) => (match look hp id, szT tt T with
      | some e, some i => if okSegs v.segs && v.ok && Nat.beq (segsSz v.segs) i then
          (match e.segs with
          | some l => (match wr1 l o v.segs with
            | some (l', ps) => (match e.put l' with | some e' => some { val := .tup [], vc := ps, st := [(id, e')] } | none => none)
            | none => none)
          | none => none) else none
      | _, _ => none)
    | some (.one (.sc (.optr e id i j))), some (.one v) => sStoreF tt hp T e id i j v
    | _, _ => none)
  | .call { callee := .value f, args, .. } => (match calleeOf ev f, evs ev args.toList with
    | some f, some l => (match C f with | some c => c hp fr l | none => none)
    | none, some l => (match ev f with | some (.one (.sc (.fn ag e p ok))) => sFn tt ag e p ok l | some (.one (.sc (.bm g id))) => (match C g with | some c => c hp fr (.one (.sc (.ptr id (.lit 0))) :: l) | none => none) | _ => none)
    | _, _ => none)
  | .call { callee := .builtin .append, args, argTypes } => (match args.toList, argTypes.toList with
    | [x, y], [T, T'] => if Nat.beq T T' then (match ev x, ev y with | some a, some b => sAppend tt hp fr T a b | _, _ => none) else none
    | _, _ => none)
  | .makeSlice t l c => (match ev l, ev c with | some a, some b => sMake tt fr t a b | _, _ => none)
  | .call { callee := .builtin .copy, args, argTypes } => (match args.toList, argTypes.toList with
    | [x, y], T :: _ => (match ev x, ev y with | some a, some b => sCp tt hp T a b | _, _ => none)
    | _, _ => none)
  | .buildSlice t len parts => (match evp ev parts.toList with | some pv => sBF tt hp fr t len pv | none => none)
  | .makeFunc fn first captured => (match spure tt hp ev (.makeFunc fn first captured) with
    | some (v, ps) => some { val := v, vc := ps }
    | none => if Nat.beq first.size 0 then (match fn, evs ev captured.toList with
      | .func g, some l => (match C g with | some c => c hp fr (.junk :: l) | none => none)
      | _, _ => none) else none)
  | op => (match spure tt hp ev op with | some (v, ps) => some { val := v, vc := ps } | none => none)

theorem args_rel {ρ : Map} {E : Operand → Value} {ev : Operand → Option SV} (hE : EvOK ρ E ev) : ∀ (l : List Operand) svs, evs ev l = some svs → ArgsRel ρ svs (l.map E)
  | [], svs, h => by
    simp only [evs, Option.some.injEq] at h
    subst h; trivial
  | x :: l, svs, h => by
    simp only [evs] at h
    split at h
    · rename_i a r hx hr
      obtain rfl := by simpa using h
      exact ⟨hE x a hx, args_rel hE l r hr⟩
    · cases h
theorem callee_val {ρ : Map} {E : Operand → Value} (hEf : ∀ f, E (.func f) = .func (.func f) #[] #[]) {ev : Operand → Option SV} (hE : EvOK ρ E ev) {x : Operand} {f : FuncId} (h : calleeOf ev x = some f) : E x = .func (.func f) #[] #[] := by
  have key : fnOfSV (ev x) = some f → E x = .func (.func f) #[] #[] := fun h => by
    unfold fnOfSV at h
    split at h
    · rename_i g a b heq
      split at h
      · rename_i hb
        simp only [Bool.and_eq_true] at hb
        obtain rfl := by simpa using h
        have h1 : a = #[] := Array.eq_empty_of_size_eq_zero (Nat.eq_of_beq_eq_true hb.1)
        have h2 : b = #[] := Array.eq_empty_of_size_eq_zero (Nat.eq_of_beq_eq_true hb.2)
        subst h1 h2
        exact hE x _ heq
      · cases h
    · cases h
  cases x with
  | func g =>
    simp only [calleeOf, Option.some.injEq] at h
    subst h; exact hEf g
  | _ => exact key h
/-- What an operation comes to, in a frame whose operands are as known. -/
theorem seff_spec {P : Program} {tt : TT} (htt : TTOK P tt) {C : Cons} (hC : CtxOK P C) {hp : Heap} {ev : Operand → Option SV} {fr : Nat} {o : Oper} {e : Eff} (h : seff tt C hp ev fr o.op = some e) (hvc : All e.vc) {ρ : Map} {a : Act} (hE : EvOK ρ a.eval ev) {w0 : W0} {w : World} (hw : WH w0 ρ hp w)
    (hfr : ∀ id x, look e.nw id = some x → ρ id = none) {K : Act → World → Prop} {Q : Exit → Act → World → Prop} (hK : ∀ ρ' w' v, UR ρ' e.val v → Fr w0.heap.size ρ ρ' w w' e → K (a.put o.dst v) w') : o.wp P a w K Q := by
  have hB : w0.heap.size ≤ w.heap.size := hw.below.size
  have pureCase : ∀ {sv : SV} {ps : List Prop}, spure tt hp ev o.op = some (sv, ps) → e = { val := sv, vc := ps } → o.wp P a w K Q := by
    intro sv ps hs he
    subst he
    obtain ⟨v, h1, h2⟩ := spure_spec htt hs hvc hE hw
    unfold Oper.wp
    rw [h1]
    exact hK ρ w v h2 (fr_none _ _)
  obtain ⟨dst, op, ty, pos, after, guard⟩ := o
  dsimp only at h hK pureCase
  have viaPure : (match spure tt hp ev op with | some (v, ps) => some ({ val := v, vc := ps } : Eff) | none => none) = some e → Oper.wp P { dst := dst, op := op, type := ty, pos := pos, after := after, guard := guard } a w K Q := fun h => by
    split at h
    · rename_i v ps hs
      exact pureCase hs (by simpa using h.symm)
    · cases h
  unfold seff at h
  split at h
  · -- alloc
    rename_i T
    split at h
    · rename_i l hl
      obtain rfl := by simpa using h
      obtain ⟨i, z, hi, hz, hc⟩ := tt_zero htt hl
      have hzv : (zeroValue T).run P w = .ok z w := by simp [zeroValue, typeInfo, hi, hz]
      have hrun : (execOp a.eval { dst := dst, op := .alloc T, type := ty, pos := pos, after := after, guard := guard }).run P w = .ok (.value (.pointer (some ⟨w.heap.size, 0, none⟩))) (w.alloc (.cells z.cells T)) := by
        simp only [execOp, Instr.alloc, Sem.run_bind, hzv, Result.andThen_ok]
        rfl
      unfold Oper.wp
      rw [hrun]
      refine hK (ρ.set fr (w.heap.size, 0)) _ _ ?_ (fr_alloc hB hw.froz (hfr fr (.own T l) (by simp [look])) (hc ρ) _ _)
      refine ⟨by simp [Map.set], ?_⟩
      simp [Map.at, Map.blk, Map.off, Map.set, SO.v]
    · cases h
  · -- box
    rename_i T x
    split at h
    · rename_i v hv
      split at h
      · rename_i hok
        obtain rfl := by simpa using h
        have hx := hE _ _ hv
        have hc := v1_cells hx hok
        have hrun : (execOp a.eval { dst := dst, op := .box T x, type := ty, pos := pos, after := after, guard := guard }).run P w = .ok (.value (.pointer (some ⟨w.heap.size, 0, none⟩))) (w.alloc (.cells (a.eval x).cells T)) := by
          simp only [execOp, Instr.box, Sem.run_bind]
          rfl
        unfold Oper.wp
        rw [hrun]
        refine hK (ρ.set fr (w.heap.size, 0)) _ _ ?_ (fr_alloc hB hw.froz (hfr fr (.own T v.segs) (by simp [look])) hc _ _)
        refine ⟨by simp [Map.set], ?_⟩
        simp [Map.at, Map.blk, Map.off, Map.set, SO.v]
      · cases h
    · cases h
  · -- store
    rename_i T p x
    split at h
    · rename_i id o v hp' hv
      split at h
      · rename_i en i0 hen hi0
        obtain ⟨i, hi, rfl⟩ := tt_sz htt hi0
        split at h
        · rename_i hok
          simp only [Bool.and_eq_true] at hok
          split at h
          · rename_i l hl
            split at h
            · rename_i l' ps hwr
              split at h
              · rename_i en' hput
                obtain rfl := by simpa using h
                have hpx := hE _ _ hp'
                have hx := hE _ _ hv
                obtain ⟨_, hpx⟩ := hpx
                have hc := v1_cells hx hok.1.2
                have h1 := okSegs_cells v.segs _ hok.1.1 hc
                have hsz : (a.eval x).cells.size = i.size := by
                  have g1 := hc.1
                  have g2 : (cellsOf v.segs).length = segsSz v.segs := by
                    cases hs : v.segs with
                    | nil => simp [cellsOf, segsSz]
                    | cons s r => rw [hs] at hwr; exact wrs_szs _ _ _ _ hwr
                  have g3 := Nat.eq_of_beq_eq_true hok.2
                  simp at g1
                  omega
                obtain ⟨w', g1, g2⟩ := store_run (P := P) hw rfl hen hl hwr hvc hput hc h1
                have hrun : (execOp a.eval { dst := dst, op := .store T p x, type := ty, pos := pos, after := after, guard := guard }).run P w = .ok .skip w' := by
                  simp only [execOp, Instr.storeAt, Sem.run_bind, hpx, Instr.sureAddr, Sem.run_pure, Result.andThen_ok, storeVar, run_sizeOf hi, hsz, ne_eq, not_true_eq_false, ↓reduceIte]
                  rw [g1]
                  rfl
                unfold Oper.wp
                rw [hrun]
                exact hK ρ w' undef ⟨#[], rfl, trivial⟩ g2
              · cases h
            · cases h
          · cases h
        · cases h
      · cases h
    · rename_i el id i j v hp' hv
      obtain ⟨A, w', ρ', g1, g2, g3, g4⟩ := sStoreF_spec htt h hvc hw (hE _ _ hp') (hE _ _ hv)
      have hrun : (execOp a.eval { dst := dst, op := .store T p x, type := ty, pos := pos, after := after, guard := guard }).run P w = .ok .skip w' := by
        simp only [execOp, Instr.storeAt, Sem.run_bind, g1, Instr.sureAddr, Sem.run_pure, Result.andThen_ok]
        rw [g2]
        rfl
      unfold Oper.wp
      rw [hrun]
      exact hK ρ' w' undef g3 g4
    · cases h
  · -- call
    rename_i f args ats
    split at h
    · rename_i g l hg hl
      split at h
      · rename_i c hc
        have hok := hC g c hc
        have hf := callee_val (fun _ => rfl) hE hg
        have hargs := args_rel hE _ _ hl
        have hcall := hok.calls hp fr l e h hvc w0 w ρ _ hw hfr hargs
        have hrun : (execOp a.eval { dst := dst, op := .call { callee := .value f, args := args, argTypes := ats }, type := ty, pos := pos, after := after, guard := guard }).run P w = .ok (.enter g (args.toList.map a.eval).toArray) w := by
          have e1 : (#[] ++ args.map a.eval ++ #[] : Array Value) = (args.toList.map a.eval).toArray := by apply Array.toList_inj.1; simp
          have := hok.enters (#[] ++ args.map a.eval ++ #[]) w
          rw [e1] at this
          simp only [execOp, resolve, hf, Sem.run_bind, Deferred.ofValue, Sem.run_pure, Result.andThen_ok, invoke]
          rw [← this, ← e1]
        unfold Oper.wp
        rw [hrun]
        refine hcall.mono ?_
        rintro en w' ⟨ρ', v, rfl, h1, h2⟩
        exact hK ρ' w' v h1 h2
      · cases h
    · rename_i l _ hl
      split at h
      · rename_i ag e0 p ok hf
        obtain ⟨g, cap, hv, hen, hcall⟩ := sFn_spec htt h hvc hw (hE _ _ hf) (args_rel hE _ _ hl)
        have hrun : (execOp a.eval { dst := dst, op := .call { callee := .value f, args := args, argTypes := ats }, type := ty, pos := pos, after := after, guard := guard }).run P w = .ok (.enter g ((args.toList.map a.eval).toArray ++ cap)) w := by
          have e1 : (#[] ++ args.map a.eval ++ cap : Array Value) = (args.toList.map a.eval).toArray ++ cap := by apply Array.toList_inj.1; simp
          have := hen (#[] ++ args.map a.eval ++ cap) w
          rw [e1] at this
          simp only [execOp, resolve, hv, Sem.run_bind, Deferred.ofValue, Sem.run_pure, Result.andThen_ok, invoke]
          rw [← this, ← e1]
        unfold Oper.wp
        rw [hrun]
        refine hcall.mono ?_
        rintro en w' ⟨v, rfl, h1, h2⟩
        exact hK ρ w' v h1 h2
      · rename_i g id hf
        split at h
        · rename_i c hc
          have hok := hC g c hc
          obtain ⟨hid, hv⟩ := hE _ _ hf
          have hargs : ArgsRel ρ (.one (.sc (.ptr id (.lit 0))) :: l) (.pointer (some (ρ.at id 0)) :: args.toList.map a.eval) := ⟨⟨hid, rfl⟩, args_rel hE _ _ hl⟩
          have hcall := hok.calls hp fr _ e h hvc w0 w ρ _ hw hfr hargs
          have hrun : (execOp a.eval { dst := dst, op := .call { callee := .value f, args := args, argTypes := ats }, type := ty, pos := pos, after := after, guard := guard }).run P w = .ok (.enter g (.pointer (some (ρ.at id 0)) :: args.toList.map a.eval).toArray) w := by
            have e1 : (#[.pointer (some (ρ.at id 0))] ++ args.map a.eval ++ #[] : Array Value) = (.pointer (some (ρ.at id 0)) :: args.toList.map a.eval).toArray := by apply Array.toList_inj.1; simp
            have := hok.enters (#[.pointer (some (ρ.at id 0))] ++ args.map a.eval ++ #[]) w
            rw [e1] at this
            simp only [execOp, resolve, hv, Sem.run_bind, Deferred.ofValue, Sem.run_pure, Result.andThen_ok, invoke]
            rw [← this, ← e1]
          unfold Oper.wp
          rw [hrun]
          refine hcall.mono ?_
          rintro en w' ⟨ρ', v, rfl, h1, h2⟩
          exact hK ρ' w' v h1 h2
        · cases h
      · cases h
    · cases h
  · -- append
    rename_i args ats
    split at h
    · rename_i x y T T' hxy hat
      split at h
      · rename_i hTT
        obtain rfl := Nat.eq_of_beq_eq_true hTT
        split at h
        · rename_i a' b' hxa hyb
          obtain ⟨v, w', ρ', h1, h2, h3⟩ := sAppend_spec htt h hvc hw hfr (hE _ _ hxa) (hE _ _ hyb) ty
          have hmap : args.map a.eval = #[a.eval x, a.eval y] := by apply Array.toList_inj.1; simp [hxy]
          have hats : ats = #[T, T] := by apply Array.toList_inj.1; simp [hat]
          have hrun : (execOp a.eval { dst := dst, op := .call { callee := .builtin .append, args := args, argTypes := ats }, type := ty, pos := pos, after := after, guard := guard }).run P w = .ok (.value v) w' := by
            show ((do pure (.value (← Builtin.append_ ats ty (args.map a.eval))) : Sem Next)).run P w = _
            rw [hmap, hats, Sem.run_bind, h1]
            rfl
          unfold Oper.wp
          rw [hrun]
          exact hK ρ' w' v h2 h3
        · cases h
      · cases h
    · cases h
  · -- make
    rename_i t l c
    split at h
    · rename_i a' b' hxa hyb
      obtain ⟨v, w', c', h1, h2, h3⟩ := sMake_spec htt h hvc hB hw.froz hfr (hE _ _ hxa) (hE _ _ hyb)
      have hrun : (execOp a.eval { dst := dst, op := .makeSlice t l c, type := ty, pos := pos, after := after, guard := guard }).run P w = .ok (.value v) w' := by
        show ((do pure (.value (← Instr.makeSlice t (a.eval l) (a.eval c))) : Sem Next)).run P w = _
        rw [Sem.run_bind, h1]
        rfl
      unfold Oper.wp
      rw [hrun]
      exact hK _ w' v h2 h3
    · cases h
  · -- copy
    rename_i args ats
    split at h
    · rename_i x y T r hxy hat
      split at h
      · rename_i a' b' hxa hyb
        obtain ⟨v, w', h1, h2, h3⟩ := sCp_spec htt h hvc hw (hE _ _ hxa) (hE _ _ hyb) (ats := ats) (by rw [← Array.getElem?_toList, hat]; rfl) ty
        have hmap : args.map a.eval = #[a.eval x, a.eval y] := by apply Array.toList_inj.1; simp [hxy]
        have hrun : (execOp a.eval { dst := dst, op := .call { callee := .builtin .copy, args := args, argTypes := ats }, type := ty, pos := pos, after := after, guard := guard }).run P w = .ok (.value v) w' := by
          show ((do pure (.value (← Builtin.copy_ ats ty (args.map a.eval))) : Sem Next)).run P w = _
          rw [hmap, Sem.run_bind, h1]
          rfl
        unfold Oper.wp
        rw [hrun]
        exact hK ρ w' v h2 h3
      · cases h
    · cases h
  · -- buildSlice
    rename_i t len parts
    split at h
    · rename_i pv hpv
      obtain ⟨e1, e2⟩ := evp_spec hE _ _ hpv
      obtain ⟨v, w', ρ', h1, h2, h3⟩ := sBF_spec htt h hvc hw hfr (parts := parts.map fun (i, x) => (i, a.eval x)) (by simpa using e1) (by simpa using e2)
      have hrun : (execOp a.eval { dst := dst, op := .buildSlice t len parts, type := ty, pos := pos, after := after, guard := guard }).run P w = .ok (.value v) w' := by
        show ((do pure (.value (← Instr.buildSlice t len (parts.map fun (i, x) => (i, a.eval x)))) : Sem Next)).run P w = _
        rw [Sem.run_bind, h1]
        rfl
      unfold Oper.wp
      rw [hrun]
      exact hK _ w' v h2 h3
    · cases h
  · -- a function value
    rename_i fn first captured
    split at h
    · rename_i sv ps hs
      exact pureCase hs (by simpa using h.symm)
    · split at h
      · rename_i hb
        split at h
        · rename_i g l hl _
          split at h
          · rename_i c hc
            have h1 : first = #[] := Array.eq_empty_of_size_eq_zero (Nat.eq_of_beq_eq_true hb)
            subst h1
            obtain ⟨ρ', g1, g2⟩ := (hC g c hc).clo hp fr l e h hvc w0 w ρ _ hw (args_rel hE _ _ hl)
            have e1 : (captured.toList.map a.eval).toArray = captured.map a.eval := by apply Array.toList_inj.1; simp
            rw [e1] at g1
            have hrun : (execOp a.eval { dst := dst, op := .makeFunc (.func g) #[] captured, type := ty, pos := pos, after := after, guard := guard }).run P w = .ok (.value (.func (.func g) #[] (captured.map a.eval))) w := by
              simp [execOp, Instr.makeFunc]
            unfold Oper.wp
            rw [hrun]
            exact hK ρ' w _ g1 g2
          · cases h
        · cases h
      · cases h
  · exact viaPure h
end Go.Proofs.Ytbhbjhejkamlnaa.Sx
