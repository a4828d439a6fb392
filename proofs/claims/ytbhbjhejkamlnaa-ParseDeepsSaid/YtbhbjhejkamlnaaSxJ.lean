/-
  One operation of a region, with its guard.
-/
import Derived.Test.YtbhbjhejkamlnaaSxS
namespace Go.Proofs.Ytbhbjhejkamlnaa.Sx
open Go.RowKit

def pin (p : Nat × Bool) (g : List (Nat × Bool)) : Bool := g.any fun q => Nat.beq q.1 p.1 && (q.2 == p.2)
theorem pin_spec {p : Nat × Bool} {g : List (Nat × Bool)} (h : pin p g = true) : p ∈ g := by
  unfold pin at h
  rw [List.any_eq_true] at h
  obtain ⟨q, hq, hh⟩ := h
  simp only [Bool.and_eq_true] at hh
  have h1 := Nat.eq_of_beq_eq_true hh.1
  have h2 : q.2 = p.2 := by simpa using hh.2
  have : q = p := by cases q; cases p; simp_all
  rw [← this]; exact hq
/-- A slot's value, where these guards hold. -/
def unw (g : List (Nat × Bool)) : SV → Option SV
  | .one x => some (.one x)
  | .tup l => some (.tup l)
  | .cond g' x => if g'.all (fun p => pin p g) then some (.one x) else none
  | .junk => none
theorem unw_spec {ρ : Map} {tmps : Array Value} {g : List (Nat × Bool)} {x y : SV} (h : unw g x = some y) (hg : Gd tmps g) {v : Value} (hv : VRel ρ tmps x v) : UR ρ y v := by
  cases x with
  | one a => simp only [unw, Option.some.injEq] at h; subst h; exact hv
  | tup l => simp only [unw, Option.some.injEq] at h; subst h; exact hv
  | cond g' a =>
    simp only [unw] at h
    split at h
    · rename_i ha
      obtain rfl := by simpa using h
      rw [List.all_eq_true] at ha
      exact hv.1 fun p hp => hg p (pin_spec (ha p hp))
    · cases h
  | junk => cases h
def evO (tm : Slots) (g : List (Nat × Bool)) : Operand → Option SV
  | .tmp t => (match look tm t with | some x => unw g x | none => none)
  | .const v => (match ofSc v with
    | some c => some (.one (.sc c))
    | none => (match v with
      | .agg cs => (match ofCells (List.replicate cs.size .c) cs.toList with | some s => some (.one (.agg s)) | none => none)
      | _ => none))
  | .func f => some (.one (.sc (.raw (.func (.func f) #[] #[]))))
  | .global _ => none
theorem evO_spec {ρ : Map} {nt : Nat} {tm : Slots} {a : Act} (h : AH ρ nt tm a) {g : List (Nat × Bool)} (hg : Gd a.tmps g) : EvOK ρ a.eval (evO tm g) := by
  intro x sv hx
  cases x with
  | tmp t =>
    simp only [evO] at hx
    split at hx
    · rename_i y hy
      exact unw_spec hx hg (h.slots t y hy)
    · cases hx
  | const v =>
    simp only [evO] at hx
    split at hx
    · rename_i c hc
      obtain rfl := by simpa using hx
      exact ofSc_spec hc ρ
    · split at hx
      · split at hx
        · rename_i s hs
          obtain rfl := by simpa using hx
          exact ⟨_, rfl, ofCells_spec _ _ s hs⟩
        · cases hx
      · cases hx
  | func f =>
    simp only [evO, Option.some.injEq] at hx
    subst hx; rfl
  | global _ => cases hx
/-- What the guards come to. -/
def gbool (tm : Slots) (t : Nat) : Option SB := match look tm t with
  | some (.one (.sc (.bool b))) => some b
  | some (.cond _ (.sc (.bool b))) => some b
  | _ => none
def gcond (tm : Slots) : List (Nat × Bool) → Prop
  | [] => True
  | (t, want) :: r => (match gbool tm t with | some b => b.v = want | none => True) ∧ gcond tm r
theorem gbool_spec {ρ : Map} {nt : Nat} {tm : Slots} {a : Act} (h : AH ρ nt tm a) {t : Nat} {want : Bool} (hv : a.tmps.getD t undef = .bool want) {b : SB} (hb : gbool tm t = some b) : b.v = want := by
  unfold gbool at hb
  split at hb
  · rename_i b' hl
    obtain rfl := by simpa using hb
    have := h.slots t _ hl
    rw [hv] at this
    exact (Value.bool.inj this).symm
  · rename_i g b' hl
    obtain rfl := by simpa using hb
    obtain ⟨h1, h2⟩ := h.slots t _ hl
    by_cases hg : Gd a.tmps g
    · have := h1 hg
      rw [hv] at this
      exact (Value.bool.inj this).symm
    · have := h2 hg
      rw [hv] at this
      cases this
  · cases hb
theorem gcond_spec {ρ : Map} {nt : Nat} {tm : Slots} {a : Act} (h : AH ρ nt tm a) : ∀ {g : List (Nat × Bool)}, Gd a.tmps g → gcond tm g
  | [], _ => trivial
  | (t, want) :: r, hg => by
    refine ⟨?_, gcond_spec h (g := r) fun p hp => hg p (List.mem_cons_of_mem _ hp)⟩
    split
    · rename_i b hb
      exact gbool_spec h (hg (t, want) (List.mem_cons_self ..)) hb
    · trivial
def SB.pick (c a b : SB) : SB := match c with
  | .lit true => a
  | .lit false => b
  | .sym c => (match a, b with
    | .lit true, b => .sym (c || b.v)
    | a, .lit false => .sym (c && a.v)
    | a, b => .sym (if c then a.v else b.v))
theorem SB.pick_v (c a b : SB) : (SB.pick c a b).v = if c.v then a.v else b.v := by
  unfold SB.pick
  cases c with
  | lit c => cases c <;> rfl
  | sym c =>
    dsimp only
    split
    · simp only [SB.v]; cases c <;> rfl
    · simp only [SB.v]; cases c <;> simp
    · rfl
def spick (tm : Slots) (g : List (Nat × Bool)) (c a b : Operand) : Option SV :=
  match evO tm g c with
  | some (.one (.sc (.bool (.lit true)))) => evO tm g a
  | some (.one (.sc (.bool (.lit false)))) => evO tm g b
  | some (.one (.sc (.bool (.sym cb)))) => (match c with
    | .tmp t => (match evO tm ((t, true) :: g) a, evO tm ((t, false) :: g) b with
      | some (.one (.sc (.bool x))), some (.one (.sc (.bool y))) => some (.one (.sc (.bool (SB.pick (.sym cb) x y))))
      | some (.one (.sc (.int k x))), some (.one (.sc (.int k' y))) => if kEq k k' then some (.one (.sc (.int k (.sym (if cb then x.v else y.v))))) else none
      | _, _ => none)
    | _ => none)
  | _ => none
theorem spick_spec {P : Program} {ρ : Map} {nt : Nat} {tm : Slots} {a : Act} (h : AH ρ nt tm a) {g : List (Nat × Bool)} (hg : Gd a.tmps g) {dst : Option Tmp} {c x y : Operand} {ty : TypeId} {pos : String} {after : Array Edge} {gu : Option (Nat × Bool)} {sv : SV} (hs : spick tm g c x y = some sv) (w : World) :
    ∃ v, (execOp a.eval { dst := dst, op := .pick c x y, type := ty, pos := pos, after := after, guard := gu }).run P w = .ok (.value v) w ∧ UR ρ sv v := by
  have hE := evO_spec h hg
  have run : ∀ (b : Bool), a.eval c = .bool b → (execOp a.eval { dst := dst, op := .pick c x y, type := ty, pos := pos, after := after, guard := gu }).run P w = .ok (.value (if b then a.eval x else a.eval y)) w := fun b hb => by
    simp only [execOp, hb]
    rfl
  unfold spick at hs
  split at hs
  · rename_i hc
    exact ⟨_, run true (hE _ _ hc), by simpa using hE _ _ hs⟩
  · rename_i hc
    exact ⟨_, run false (hE _ _ hc), by simpa using hE _ _ hs⟩
  · rename_i cb hc
    have hcv : a.eval c = .bool cb := hE _ _ hc
    split at hs
    · rename_i t
      have gt : ∀ b, cb = b → Gd a.tmps ((t, b) :: g) := fun b hb p hp => by
        rcases List.mem_cons.1 hp with rfl | hp
        · subst hb; exact hcv
        · exact hg p hp
      split at hs
      · rename_i p q hx hy
        obtain rfl := by simpa using hs
        refine ⟨_, run cb hcv, ?_⟩
        show (if cb then a.eval x else a.eval y) = .bool (SB.pick (.sym cb) p q).v
        rw [SB.pick_v]
        show (if cb then a.eval x else a.eval y) = .bool (if cb then p.v else q.v)
        cases hcb : cb with
        | true => exact evO_spec h (gt true hcb) _ _ hx
        | false => exact evO_spec h (gt false hcb) _ _ hy
      · rename_i k p k' q hx hy
        split at hs
        · rename_i hk
          have := kEq_eq hk
          subst this
          obtain rfl := by simpa using hs
          refine ⟨_, run cb hcv, ?_⟩
          show (if cb then a.eval x else a.eval y) = .int k (if cb then p.v else q.v)
          cases hcb : cb with
          | true => exact evO_spec h (gt true hcb) _ _ hx
          | false => exact evO_spec h (gt false hcb) _ _ hy
        · cases hs
      · cases hs
    · cases hs
  · cases hs
/-- An operation, where these guards hold. -/
def sop (tt : TT) (C : Cons) (hp : Heap) (tm : Slots) (g : List (Nat × Bool)) (fr : Nat) (op : Op) : Option Eff :=
  match op with
  | .pick c a b => (match spick tm g c a b with | some v => some { val := v, vc := [] } | none => none)
  | op => seff tt C hp (evO tm g) fr op
theorem sop_spec {P : Program} {tt : TT} (htt : TTOK P tt) {C : Cons} (hC : CtxOK P C) {hp : Heap} {tm : Slots} {g : List (Nat × Bool)} {fr : Nat} {o : Oper} {e : Eff} (h : sop tt C hp tm g fr o.op = some e) (hvc : All e.vc) {ρ : Map} {nt : Nat} {a : Act} (hA : AH ρ nt tm a) (hg : Gd a.tmps g) {w0 : W0} {w : World} (hw : WH w0 ρ hp w)
    (hfr : ∀ id x, look e.nw id = some x → ρ id = none) {K : Act → World → Prop} {Q : Exit → Act → World → Prop} (hK : ∀ ρ' w' v, UR ρ' e.val v → Fr w0.heap.size ρ ρ' w w' e → K (a.put o.dst v) w') : o.wp P a w K Q := by
  obtain ⟨dst, op, ty, pos, after, guard⟩ := o
  dsimp only at h hK
  unfold sop at h
  split at h
  · rename_i c x y
    split at h
    · rename_i v hv
      obtain rfl := by simpa using h
      obtain ⟨u, h1, h2⟩ := spick_spec (P := P) (dst := dst) (ty := ty) (pos := pos) (after := after) (gu := guard) hA hg hv w
      unfold Oper.wp
      rw [h1]
      exact hK ρ w u h2 (fr_none _ _)
    · cases h
  · exact seff_spec htt hC h hvc (evO_spec hA hg) hw hfr hK

/-! ### Guards -/
inductive GRes | run (g : List (Nat × Bool)) | skip
def sguard (ops : Array Oper) (tm : Slots) (gu : Option (Nat × Bool)) : Option GRes :=
  match gu with
  | none => some (.run [])
  | some (j, want) => (match (ops[j]?).bind (·.dst) with
    | none => none
    | some t => (match look tm t with
      | some (.one (.sc (.bool (.lit b)))) => if b == want then some (.run []) else some .skip
      | some (.one (.sc (.bool (.sym _)))) => some (.run [(t, want)])
      | some (.cond g (.sc (.bool (.lit b)))) => if b == want then some (.run ((t, want) :: g)) else some .skip
      | some (.cond g (.sc (.bool (.sym _)))) => some (.run ((t, want) :: g))
      | some (.tup []) => some .skip
      | _ => none))
theorem yielded_iff {ops : Array Oper} {tmps : Array Value} {j t : Nat} {want : Bool} (ht : (ops[j]?).bind (·.dst) = some t) : (yielded ops tmps j == some want) = true ↔ tmps.getD t undef = .bool want := by
  unfold yielded
  rw [ht]
  simp only [Option.bind_some]
  cases hv : tmps[t]? with
  | none => simp [hv, undef]
  | some v =>
    have : tmps.getD t undef = v := by simp [hv]
    rw [this]
    cases v <;> simp
theorem sguard_spec {ops : Array Oper} {tm : Slots} {o : Oper} {ρ : Map} {nt : Nat} {a : Act} (h : AH ρ nt tm a) : (∀ g, sguard ops tm o.guard = some (.run g) → (Region.wanted o (yielded ops a.tmps) = true ↔ Gd a.tmps g)) ∧ (sguard ops tm o.guard = some .skip → Region.wanted o (yielded ops a.tmps) = false) := by
  cases hgu : o.guard with
  | none =>
    refine ⟨fun g hg => ?_, fun hg => ?_⟩
    · simp only [sguard, Option.some.injEq, GRes.run.injEq] at hg
      subst hg
      simp [Region.wanted, hgu, Gd]
    · simp [sguard] at hg
  | some jw =>
    obtain ⟨j, want⟩ := jw
    have hwd : ∀ t, (ops[j]?).bind (·.dst) = some t → (Region.wanted o (yielded ops a.tmps) = true ↔ a.tmps.getD t undef = .bool want) := fun t ht => by
      simp only [Region.wanted, hgu]
      exact yielded_iff ht
    have nope : ∀ t, (ops[j]?).bind (·.dst) = some t → a.tmps.getD t undef ≠ .bool want → Region.wanted o (yielded ops a.tmps) = false := fun t ht hne => by
      cases hq : Region.wanted o (yielded ops a.tmps) with
      | false => rfl
      | true => exact absurd ((hwd t ht).1 hq) hne
    simp only [sguard]
    split
    · exact ⟨fun g hg => (by cases hg), fun hg => (by cases hg)⟩
    · rename_i t ht
      split
      · rename_i b hl
        have hv : a.tmps.getD t undef = .bool b := h.slots t _ hl
        split
        · rename_i hbw
          have hbw' : b = want := by simpa using hbw
          refine ⟨fun g hg => ?_, fun hg => by cases hg⟩
          simp only [Option.some.injEq, GRes.run.injEq] at hg
          subst hg
          rw [hwd t ht, hv, hbw']
          simp [Gd]
        · rename_i hbw
          refine ⟨fun g hg => (by cases hg), fun _ => nope t ht ?_⟩
          rw [hv]
          intro e
          apply hbw
          simp [Value.bool.inj e]
      · rename_i b hl
        refine ⟨fun g hg => ?_, fun hg => by cases hg⟩
        simp only [Option.some.injEq, GRes.run.injEq] at hg
        subst hg
        rw [hwd t ht]
        simp [Gd]
      · rename_i g b hl
        obtain ⟨h1, h2⟩ := h.slots t _ hl
        split
        · rename_i hbw
          have hbw' : b = want := by simpa using hbw
          refine ⟨fun g' hg => ?_, fun hg => by cases hg⟩
          simp only [Option.some.injEq, GRes.run.injEq] at hg
          subst hg
          rw [hwd t ht]
          constructor
          · intro hv p hp
            rcases List.mem_cons.1 hp with rfl | hp
            · exact hv
            · by_cases hG : Gd a.tmps g
              · exact hG p hp
              · rw [h2 hG] at hv; cases hv
          · intro hG; exact hG (t, want) (List.mem_cons_self ..)
        · rename_i hbw
          refine ⟨fun g hg => (by cases hg), fun _ => nope t ht ?_⟩
          intro e
          by_cases hG : Gd a.tmps g
          · have h3 := h1 hG
            rw [e] at h3
            have h4 : want = b := Value.bool.inj h3
            apply hbw
            simp [h4]
          · rw [h2 hG] at e; cases e
      · rename_i g b hl
        obtain ⟨h1, h2⟩ := h.slots t _ hl
        refine ⟨fun g' hg => ?_, fun hg => by cases hg⟩
        simp only [Option.some.injEq, GRes.run.injEq] at hg
        subst hg
        rw [hwd t ht]
        constructor
        · intro hv p hp
          rcases List.mem_cons.1 hp with rfl | hp
          · exact hv
          · by_cases hG : Gd a.tmps g
            · exact hG p hp
            · rw [h2 hG] at hv; cases hv
        · intro hG; exact hG (t, want) (List.mem_cons_self ..)
      · rename_i hl
        obtain ⟨vs, hv, ht'⟩ := h.slots t _ hl
        refine ⟨fun g hg => (by cases hg), fun _ => nope t ht ?_⟩
        rw [hv]
        intro e; cases e
      · exact ⟨fun g hg => (by cases hg), fun hg => (by cases hg)⟩

/-- What is known behind an operation of a region. -/
structure Rec where
  sv : SV
  vc : List Prop
  st : Heap := []
  nw : Heap := []
def guardVC (p : Prop) : List Prop → List Prop
  | [] => []
  | q :: r => (p → q) :: guardVC p r
theorem guardVC_spec {p : Prop} (hp : p) : ∀ {l : List Prop}, All (guardVC p l) → All l
  | [], _ => trivial
  | _ :: _, h => ⟨h.1 hp, guardVC_spec hp h.2⟩
/-- What must be so that the guards hold. -/
def gmust (tm : Slots) : List (Nat × Bool) → Option (List Prop)
  | [] => some []
  | (t, want) :: r => (match gmust tm r, look tm t with
    | some ps, some (.one (.sc (.bool b))) => some ((b.v = want) :: ps)
    | some ps, some (.cond g (.sc (.bool b))) => if g.all (fun p => pin p r) then some ((b.v = want) :: ps) else none
    | _, _ => none)
theorem gmust_spec {ρ : Map} {nt : Nat} {tm : Slots} {a : Act} (h : AH ρ nt tm a) : ∀ {g : List (Nat × Bool)} {ps : List Prop}, gmust tm g = some ps → All ps → Gd a.tmps g
  | [], _, _, _ => fun p hp => by cases hp
  | (t, want) :: r, ps, hg, hp => by
    simp only [gmust] at hg
    split at hg
    · rename_i qs b hq hl
      obtain rfl := by simpa using hg
      have hr := gmust_spec h hq hp.2
      intro p hm
      rcases List.mem_cons.1 hm with rfl | hm
      · have hv : a.tmps.getD t undef = .bool b.v := h.slots t _ hl
        rw [hv, hp.1]
      · exact hr p hm
    · rename_i qs g b hq hl
      split at hg
      · rename_i hall
        obtain rfl := by simpa using hg
        have hr := gmust_spec h hq hp.2
        intro p hm
        rcases List.mem_cons.1 hm with rfl | hm
        · obtain ⟨h1, _⟩ := h.slots t _ hl
          have hv : a.tmps.getD t undef = .bool b.v := h1 fun p hp' => hr p (pin_spec (List.all_eq_true.1 hall p hp'))
          rw [hv, hp.1]
        · exact hr p hm
      · cases hg
    · cases hg
def sstep (tt : TT) (C : Cons) (ops : Array Oper) (hp : Heap) (tm : Slots) (fr : Nat) (gu : Option (Nat × Bool)) (op : Op) : Option Rec :=
  match sguard ops tm gu with
  | some .skip => some { sv := .tup [], vc := [] }
  | some (.run []) => (match sop tt C hp tm [] fr op with
    | some e => if stOK hp e.nw e.st then some { sv := e.val, vc := e.vc, st := e.st, nw := e.nw } else none
    | none => none)
  | some (.run (p :: g)) => (match sop tt C hp tm (p :: g) fr op with
    | some { val := .one x, vc := vc, st := [], nw := [] } => some { sv := .cond (p :: g) x, vc := guardVC (gcond tm (p :: g)) vc }
    | some e => (match gmust tm (p :: g) with
      | some ps => if stOK hp e.nw e.st then some { sv := e.val, vc := ps ++ e.vc, st := e.st, nw := e.nw } else none
      | none => none)
    | none => none)
  | none => none
def Rec.eff (r : Rec) : Eff := { val := r.sv, vc := r.vc, st := r.st, nw := r.nw }
theorem fr_val {B : Nat} {ρ ρ' : Map} {w w' : World} {e f : Eff} (h : Fr B ρ ρ' w w' e) (h1 : f.st = e.st) (h2 : f.nw = e.nw) : Fr B ρ ρ' w w' f := by
  obtain ⟨a, b, c, d, e1, f1, g1, k1⟩ := h
  rw [← h2] at b f1 g1 k1
  rw [← h1] at d e1 f1 k1
  exact ⟨a, b, c, d, e1, f1, g1, k1⟩
theorem ur_vrel {ρ : Map} {t : Array Value} {x : SV} {v : Value} (h : UR ρ x v) : VRel ρ t x v := by
  cases x with
  | one x => exact h
  | tup l => exact h
  | cond => exact h.elim
  | junk => exact h.elim
theorem sstep_spec {P : Program} {tt : TT} (htt : TTOK P tt) {C : Cons} (hC : CtxOK P C) {ops : Array Oper} {hp : Heap} {tm : Slots} {fr : Nat} {o : Oper} {r : Rec} (h : sstep tt C ops hp tm fr o.guard o.op = some r) (hvc : All r.vc) {ρ : Map} {nt : Nat} {a : Act} (hA : AH ρ nt tm a) {w0 : W0} {w : World} (hw : WH w0 ρ hp w)
    (hfr : ∀ id x, look r.nw id = some x → ρ id = none) {K : Act → World → Prop} {Q : Exit → Act → World → Prop} (hK : ∀ ρ' w' v, VRel ρ' a.tmps r.sv v → Fr w0.heap.size ρ ρ' w w' r.eff → K (a.put o.dst v) w') :
    stOK hp r.nw r.st = true ∧ if Region.wanted o (yielded ops a.tmps) then o.wp P a w K Q ∨ (o.asks P a w ∧ LetsOut Q) else K (a.put o.dst undef) w := by
  obtain ⟨hs1, hs2⟩ := sguard_spec (ops := ops) (o := o) hA
  unfold sstep at h
  split at h
  · rename_i hg
    obtain rfl := by simpa using h
    refine ⟨rfl, ?_⟩
    rw [hs2 hg]
    simp only [Bool.false_eq_true, ↓reduceIte]
    exact hK ρ w undef ⟨#[], rfl, trivial⟩ (fr_none _ _)
  · rename_i hg
    split at h
    · rename_i e he
      split at h
      · rename_i hst
        obtain rfl := by simpa using h
        refine ⟨hst, ?_⟩
        have hG : Gd a.tmps [] := fun p hp => by cases hp
        rw [if_pos ((hs1 _ hg).2 hG)]
        exact .inl (sop_spec htt hC he hvc hA hG hw hfr fun ρ' w' v h1 h2 => hK ρ' w' v (ur_vrel h1) (fr_val h2 rfl rfl))
      · cases h
    · cases h
  · rename_i p g hg
    split at h
    · rename_i x vc he
      obtain rfl := by simpa using h
      refine ⟨rfl, ?_⟩
      by_cases hG : Gd a.tmps (p :: g)
      · rw [if_pos ((hs1 _ hg).2 hG)]
        refine .inl (sop_spec htt hC he (guardVC_spec (gcond_spec hA hG) hvc) hA hG hw (fun id x hx => by simp [look] at hx) fun ρ' w' v h1 h2 => hK ρ' w' v ?_ (fr_val h2 rfl rfl))
        exact ⟨fun _ => h1, fun hn => absurd hG hn⟩
      · rw [if_neg (fun hq => hG ((hs1 _ hg).1 hq))]
        exact hK ρ w undef ⟨fun hq => absurd hq hG, fun _ => rfl⟩ (fr_none _ _)
    · rename_i e _ he
      split at h
      · rename_i ps hps
        split at h
        · rename_i hst
          obtain rfl := by simpa using h
          refine ⟨hst, ?_⟩
          obtain ⟨hv1, hv2⟩ := all_append.1 hvc
          have hG := gmust_spec hA hps hv1
          rw [if_pos ((hs1 _ hg).2 hG)]
          exact .inl (sop_spec htt hC he hv2 hA hG hw hfr fun ρ' w' v h1 h2 => hK ρ' w' v (ur_vrel h1) (fr_val h2 rfl rfl))
        · cases h
      · cases h
    · cases h
  · cases h
end Go.Proofs.Ytbhbjhejkamlnaa.Sx
