/-
  itv.Do: what it tells of two Itvs.; eval.Eval: what an expression may be.; itv.Test; eval.Eval, Assign, Assume.
-/
import Derived.Test.YtlgmofjjjhbgkaaGreatJt18
import Derived.Test.YtlgmofjjjhbgkaaGreatJt17
import Derived.Test.YtlgmofjjjhbgkaaGreatJt23
import Derived.Test.YtlgmofjjjhbgkaaGreatJt16
namespace Go.Proofs.YtlgmofjjjhbgkaaGreat.Sx.Z
open Go.RowKit
abbrev IE := (Int × Int) × (Bool × Bool)
/-- Empty, or of numbers that may be. -/
def Rg (p : Int × Int) : Prop := p.2 < p.1 ∨ (-2147483648 ≤ p.1 ∧ p.2 ≤ 2147483647)
theorem Nm.rg {p : Int × Int} (h : Nm p) : Rg p := by
  rcases h with rfl | h
  · exact .inl (by decide)
  · exact .inr ⟨h.1, h.2.2⟩
def NoDo (k : Int) (a b : Int × Int) : Prop := a.2 < a.1 ∨ b.2 < b.1 ∨ k < 4 ∨ 8 < k
theorem do_spec (k : Int) (a b : Int × Int) : ∃ r : IE, (NoDo k a b → r = ((1, 0), (false, false))) ∧ (¬ NoDo k a b → Rg a → Rg b → DoIs k a.1 a.2 b.1 b.2 r.1.1 r.1.2 r.2.1 r.2.2 ∧ DoOk k a.1 a.2 b.1 b.2 r.1.1 r.1.2 r.2.1 r.2.2) ∧ Nm r.1 ∧ (k = 4 → ¬ NoDo k a b → Rg a → Rg b → r = (ofP (a.1 + b.1) (a.2 + b.2), (decide (a.1 + b.1 < -2147483648) || decide (2147483647 < a.2 + b.2), false))) := by
  by_cases h : NoDo k a b
  · exact ⟨((1, 0), (false, false)), fun _ => rfl, fun c => absurd h c, .inl rfl, fun _ c => absurd h c⟩
  · by_cases hr : Rg a ∧ Rg b
    · obtain ⟨z0, z1, ov, dz, h1, h2⟩ := ((do_ok a.1 a.2 b.1 b.2 (by unfold NoDo at h; omega) (by unfold NoDo at h; omega) (by have := hr.1; unfold NoDo at h; unfold Rg at this; omega) (by have := hr.1; unfold NoDo at h; unfold Rg at this; omega) (by have := hr.2; unfold NoDo at h; unfold Rg at this; omega) (by have := hr.2; unfold NoDo at h; unfold Rg at this; omega) k (by unfold NoDo at h; omega) (by unfold NoDo at h; omega)) : ∃ z0 z1 ov dz, DoIs k a.1 a.2 b.1 b.2 z0 z1 ov dz ∧ DoOk k a.1 a.2 b.1 b.2 z0 z1 ov dz)
      have nm : ∀ {z0 z1 : Int} {ov dz : Bool}, DoOk k a.1 a.2 b.1 b.2 z0 z1 ov dz → Nm (z0, z1) := fun h2 => by
        rcases h2.norm with ⟨e1, e2⟩ | q
        · left; rw [e1, e2]
        · right; dsimp only; omega
      by_cases k4 : k = 4
      · subst k4
        have ra := hr.1
        have rb := hr.2
        unfold NoDo at h
        unfold Rg at ra rb
        have ok : DoOk 4 a.1 a.2 b.1 b.2 (ofP (a.1 + b.1) (a.2 + b.2)).1 (ofP (a.1 + b.1) (a.2 + b.2)).2 (decide (a.1 + b.1 < -2147483648) || decide (2147483647 < a.2 + b.2)) false :=
          ends_ok 4 a.1 a.2 b.1 b.2 (a.1 + b.1) (a.2 + b.2) _ _ _ _ (by omega) (by omega) (by simp) (by decide) rfl rfl (fun x y h0 h1 h2 h3 => by have e : valP 4 x y = x + y := rfl; omega)
            (fun _ => ⟨a.1, b.1, a.2, b.2, by omega, by omega, by omega, by omega, rfl, by omega, by omega, by omega, by omega, rfl⟩)
        exact ⟨(ofP (a.1 + b.1) (a.2 + b.2), (decide (a.1 + b.1 < -2147483648) || decide (2147483647 < a.2 + b.2), false)), fun c => absurd c h, fun _ _ _ => ⟨fun W => do_add a.1 a.2 b.1 b.2 W (by omega) (by omega) (by omega) (by omega) (by omega) (by omega), ok⟩, nm ok, fun _ _ _ _ => rfl⟩
      · exact ⟨((z0, z1), (ov, dz)), fun c => absurd c h, fun _ _ _ => ⟨h1, h2⟩, nm h2, fun c => absurd c k4⟩
    · exact ⟨((1, 0), (false, false)), fun _ => rfl, fun _ ha hb => absurd ⟨ha, hb⟩ hr, .inl rfl, fun _ _ ha hb => absurd ⟨ha, hb⟩ hr⟩
noncomputable def doI (k : Int) (a b : Int × Int) : IE := Classical.choose (do_spec k a b)
theorem doI_nm (k : Int) (a b : Int × Int) : Nm (doI k a b).1 := (Classical.choose_spec (do_spec k a b)).2.2.1
theorem doI_none {k : Int} {a b : Int × Int} (h : NoDo k a b) : doI k a b = ((1, 0), (false, false)) := (Classical.choose_spec (do_spec k a b)).1 h
theorem doI_ok {k : Int} {a b : Int × Int} (h : ¬ NoDo k a b) (ha : Rg a) (hb : Rg b) : DoIs k a.1 a.2 b.1 b.2 (doI k a b).1.1 (doI k a b).1.2 (doI k a b).2.1 (doI k a b).2.2 ∧ DoOk k a.1 a.2 b.1 b.2 (doI k a b).1.1 (doI k a b).1.2 (doI k a b).2.1 (doI k a b).2.2 :=
  (Classical.choose_spec (do_spec k a b)).2.1 h ha hb
noncomputable def dononeS : FSpec := fun ds _ => match ds with
  | [.i k, .i a, .i b, .i c, .i d] => some { val := .tup [.agg [.c (.int .i64 (.sym (doI k (a, b) (c, d)).1.1)), .c (.int .i64 (.sym (doI k (a, b) (c, d)).1.2))], .agg [.c (.bool (.sym (doI k (a, b) (c, d)).2.1)), .c (.bool (.sym (doI k (a, b) (c, d)).2.2))]], vc := [NoDo k (a, b) (c, d)] }
  | _ => none
noncomputable def dononeC : Con := con [iA, itvA, itvA] dononeS
theorem donone_ok : ConOK Tryz.prog 128 dononeC := by
  refine fn_ob tt_ok mixed Tryz.func128 rfl (fun _ _ => by kernel_rfl) (A := fun ds => ⟨fun _ => Cons.of [(48, emptyC), (37, inoneC)], fun _ => none, fun _ => none⟩) (fun _ _ => (cons_cons empty_ok (cons_cons inone_ok cons_nil))) (by kernel_rfl) ?_
  intro ds fr
  unfold dononeS
  split
  · rename_i k a b c d
    refine kmp (q := NoDo k (a, b) (c, d) → ((decide (b < a) || decide (d < c)) = true → (1 : Int) = (doI k (a, b) (c, d)).fst.fst ∧ (0 : Int) = (doI k (a, b) (c, d)).fst.snd ∧ false = (doI k (a, b) (c, d)).snd.fst ∧ false = (doI k (a, b) (c, d)).snd.snd) ∧ ((decide (b < a) || decide (d < c)) = false → ((k == (4 : Int)) = true → False) ∧ ((k == (4 : Int)) = false → ((k == (5 : Int)) = true → False) ∧ ((k == (5 : Int)) = false → ((k == (6 : Int)) = true → False) ∧ ((k == (6 : Int)) = false → ((k == (7 : Int)) = true → False) ∧ ((k == (7 : Int)) = false → ((k == (8 : Int)) = true → False) ∧ ((k == (8 : Int)) = false → (1 : Int) = (doI k (a, b) (c, d)).fst.fst ∧ (0 : Int) = (doI k (a, b) (c, d)).fst.snd ∧ false = (doI k (a, b) (c, d)).snd.fst ∧ false = (doI k (a, b) (c, d)).snd.snd))))))) (by kernel_rfl) ?_
    intro h
    rw [doI_none h]
    have h' : b < a ∨ d < c ∨ k < 4 ∨ 8 < k := h
    simp
    omega
  · trivial
noncomputable def doS : FSpec := fun ds _ => match ds with
  | [.i k, .i a, .i b, .i c, .i d] => some { val := .tup [.agg [.c (.int .i64 (.sym (doI k (a, b) (c, d)).1.1)), .c (.int .i64 (.sym (doI k (a, b) (c, d)).1.2))], .agg [.c (.bool (.sym (doI k (a, b) (c, d)).2.1)), .c (.bool (.sym (doI k (a, b) (c, d)).2.2))]], vc := [Rg (a, b), Rg (c, d)] }
  | _ => none
noncomputable def doC : Con := con [iA, itvA, itvA] doS
/-- A call that tells numbers and truths, and leaves memory as it was. -/
theorem con_plain {P : Program} {f : FuncId} {aps : List AP} {spec : FSpec} (hen : ∀ (args : Array Value) (w : World), (callFunc f args).run P w = .ok (.enter f args) w)
    (H : ∀ ds fr e, spec ds fr = some e → All e.vc → e.nw = [] ∧ plainE e = true ∧ ∀ svs h id ρ vs, unP aps ds 0 = some (svs, h, id) → ArgsRel ρ svs vs → ∀ w, ∃ v, (∀ ρ, UR ρ e.val v) ∧ Calls P f vs.toArray w fun en w' => en = .returned v ∧ Below w.heap.size w w') : ConOK P f (con aps spec) := by
  refine ⟨hen, fun hp fr args e he hv w0 w ρ vs hw _ ha => ?_, fun _ _ _ _ h => nomatch (con_jf _ _ _ _ _).symm.trans h⟩
  unfold con at he
  split at he
  · rename_i ds ps hds
    split at he
    · rename_i e1 he1
      obtain rfl := by simpa using he
      obtain ⟨hp1, hp2⟩ := all_append.1 hv
      obtain ⟨svs, h, ρ1, id, hun, _, _, hrel⟩ := unP_spec hw aps args ds ps hds hp1 vs ha (ids := keepOwn hp (idsX hp args)) (fun i hi ho => keepOwn_mem.2 ⟨hi, ho⟩) 0
      obtain ⟨h1, h2, h3⟩ := H ds fr e1 he1 hp2
      obtain ⟨v, hv, hc⟩ := h3 svs h id ρ1 vs hun hrel w
      refine hc.mono ?_
      rintro en w' ⟨rfl, hb⟩
      refine ⟨ρ, v, rfl, hv ρ, ⟨⟨fun _ _ h => h, fun _ _ => rfl, fun _ _ h => h, rfl, rfl⟩, fun _ _ => rfl, hb.mono (Nat.zero_le _), fun b hlt _ => hb.block b hlt, fun i x h => ?_, fun i x h => ?_, fun i j x y h => ?_, fun _ _ h => .inl h⟩⟩
      · rw [h2] at h; simp [look] at h
      · have h : look e1.nw i = some x := h
        rw [h1] at h; simp [look] at h
      · have h : look e1.nw i = some x := h
        rw [h1] at h; simp [look] at h
    · cases he
  · cases he
theorem agg2 {ρ : Map} {a b : Int} {v : Value} (h : UR ρ (.one (.agg [.c (.int .i64 (.sym a)), .c (.int .i64 (.sym b))])) v) : v = .agg #[.int .i64 a, .int .i64 b] := by
  obtain ⟨cs, rfl, h1, h2⟩ := h
  obtain ⟨l⟩ := cs
  match l, h1 with
  | [x, y], _ =>
    have e1 := h2 0 _ x rfl rfl
    have e2 := h2 1 _ y rfl rfl
    have e1 : x = .int .i64 a := e1
    have e2 : y = .int .i64 b := e2
    rw [e1, e2]
theorem do_con : ConOK Tryz.prog 128 doC := by
  classical
  · refine ⟨fun _ _ => by kernel_rfl, fun hp fr args e he hv => ?_, fun _ _ _ _ h => nomatch (con_jf _ _ _ _ _).symm.trans h⟩
    have he0 := he
    unfold doC con at he
    split at he
    · rename_i ds ps hds
      split at he
      · rename_i e1 he1
        unfold doS at he1
        split at he1
        · rename_i k a b c d
          obtain rfl := Option.some.inj he1
          obtain rfl := Option.some.inj he
          obtain ⟨v1, v2⟩ := all_append.1 hv
          by_cases hn : NoDo k (a, b) (c, d)
          · have hd : dononeC hp fr args = some { val := .tup [.agg [.c (.int .i64 (.sym (doI k (a, b) (c, d)).1.1)), .c (.int .i64 (.sym (doI k (a, b) (c, d)).1.2))], .agg [.c (.bool (.sym (doI k (a, b) (c, d)).2.1)), .c (.bool (.sym (doI k (a, b) (c, d)).2.2))]], vc := ps ++ [NoDo k (a, b) (c, d)], st := [] } := by
              unfold dononeC con
              rw [hds]
              rfl
            intro w0 w ρ vs hw hf ha
            exact (donone_ok.calls hp fr args _ hd (all_append.2 ⟨v1, hn, trivial⟩) w0 w ρ vs hw hf ha).mono fun en w' h => by
              obtain ⟨ρ', v, h1, h2, h3⟩ := h
              exact ⟨ρ', v, h1, h2, ⟨h3.ext, h3.only, h3.below, h3.keep, h3.st, h3.nw, h3.apart, h3.fz⟩⟩
          · refine (con_plain (spec := fun ds fr => if ds = [.i k, .i a, .i b, .i c, .i d] then doS ds fr else none) (aps := [iA, itvA, itvA]) (fun _ _ => by kernel_rfl) ?_).calls hp fr args _ ?_ hv
            · intro ds' fr' e' h1 h2

              split at h1
              · rename_i hds'
                subst hds'
                obtain rfl := Option.some.inj h1
                refine ⟨rfl, rfl, fun svs h id ρ vs hun ha w => ?_⟩
                obtain ⟨rfl, rfl, rfl⟩ : svs = _ ∧ h = _ ∧ id = _ := by
                  have := Option.some.inj hun
                  exact ⟨(congrArg Prod.fst this).symm, (congrArg (fun x => x.2.1) this).symm, (congrArg (fun x => x.2.2) this).symm⟩
                match vs, ha with
                | [x, y, z], ⟨e1, e2, e3, _⟩ =>
                  have e1 : x = .int .i64 k := e1
                  rw [e1, agg2 e2, agg2 e3]
                  refine ⟨_, fun ρ => ?_, ((doI_ok hn h2.1 h2.2.1).1 w)⟩
                  refine ⟨_, rfl, ⟨_, rfl, rfl, fun i x v hx hv => ?_⟩, ⟨_, rfl, rfl, fun i x v hx hv => ?_⟩, trivial⟩
                  · match i with
                    | 0 => obtain rfl := Option.some.inj hx; obtain rfl := Option.some.inj hv; rfl
                    | 1 => obtain rfl := Option.some.inj hx; obtain rfl := Option.some.inj hv; rfl
                    | i + 2 => cases hx
                  · match i with
                    | 0 => obtain rfl := Option.some.inj hx; obtain rfl := Option.some.inj hv; rfl
                    | 1 => obtain rfl := Option.some.inj hx; obtain rfl := Option.some.inj hv; rfl
                    | i + 2 => cases hx
              · cases h1
            · unfold con
              rw [hds]
              simp only [if_true]
              rfl
        · cases he1
      · cases he
    · cases he
end Go.Proofs.YtlgmofjjjhbgkaaGreat.Sx.Z
namespace Go.Proofs.YtlgmofjjjhbgkaaGreat.Sx.Z
open Go.RowKit
def tg (x y : Bool × Bool) : Bool × Bool := (x.1 || y.1, x.2 || y.2)
noncomputable def negI (a : Int × Int) : IE := doI 5 (0, 0) a
def prI (I : D) (v : Int) : Int × Int := ((I.el v.toNat 0).toI, (I.el v.toNat 1).toI)
def bothI (l r : IE) : (Int × Int) × (Int × Int) × (Bool × Bool) := if l.1.2 < l.1.1 then ((1, 0), (1, 0), l.2) else (l.1, r.1, tg l.2 r.2)
noncomputable def negE (r : IE) : IE := ((negI r.1).1, tg r.2 (negI r.1).2)
noncomputable def doE (k : Int) (B : (Int × Int) × (Int × Int) × (Bool × Bool)) : IE := ((doI k B.1 B.2.1).1, tg B.2.2 (doI k B.1 B.2.1).2)
def noE : IE := ((1, 0), (false, false))
noncomputable def recP (I : D) : Xp → IE
  | .mk k n v kids => if k = 1 then (ofI n n, (false, false)) else if k = 2 ∧ 0 ≤ v ∧ v < I.len then (prI I v, (false, false)) else match kids with
    | [a] => if k = 3 then negE (recP I a) else noE
    | [a, b] => doE k (bothI (recP I a) (recP I b))
    | _ => noE
theorem rec_eq (I : D) (k n v : Int) (d : D) : recP I (ex k n v d) = if k = 1 then (ofI n n, (false, false)) else if k = 2 ∧ 0 ≤ v ∧ v < I.len then (prI I v, (false, false)) else if k = 3 ∧ d.len = 1 then negE (recP I (exE d 0)) else if d.len = 2 then doE k (bothI (recP I (exE d 0)) (recP I (exE d 1))) else noE := by
  show recP I (.mk k n v (exs d)) = _
  by_cases h1 : d.len = 1
  · rw [exs_one h1, recP]; simp [h1]
  · by_cases h2 : d.len = 2
    · rw [exs_two h2, recP]; simp [h2]
    · rw [recP.eq_3 _ _ _ _ _ (fun a => exs_ne1 h1 a) (fun a b => exs_ne2 h2 a b)]; simp [h1, h2]
def RgI (I : D) : Prop := I.len ≤ 1000 ∧ ∀ v : Int, 0 ≤ v → v < I.len → Rg (prI I v)
theorem rg_none : Rg (1, 0) := .inl (by decide)
theorem rec_rg {I : D} (h : RgI I) (e : Xp) : Rg (recP I e).1 := by
  match e with
  | .mk k n v [] =>
    rw [recP.eq_3 _ _ _ _ _ (fun a h => by cases h) (fun a b h => by cases h)]
    split
    · exact (nm_of n n).rg
    · split
      · rename_i c; exact h.2 v c.2.1 c.2.2
      · exact rg_none
  | .mk k n v [a] =>
    rw [recP]
    split
    · exact (nm_of n n).rg
    · split
      · rename_i c; exact h.2 v c.2.1 c.2.2
      · split
        · exact (doI_nm _ _ _).rg
        · exact rg_none
  | .mk k n v [a, b] =>
    rw [recP]
    split
    · exact (nm_of n n).rg
    · split
      · rename_i c; exact h.2 v c.2.1 c.2.2
      · exact (doI_nm _ _ _).rg
  | .mk k n v (a :: b :: c :: r) =>
    rw [recP.eq_3 _ _ _ _ _ (fun a h => by cases h) (fun a b h => by cases h)]
    split
    · exact (nm_of n n).rg
    · split
      · rename_i c; exact h.2 v c.2.1 c.2.2
      · exact rg_none
theorem both_rg {l r : IE} (hl : Rg l.1) (hr : Rg r.1) : Rg (bothI l r).1 ∧ Rg (bothI l r).2.1 := by
  unfold bothI
  split
  · exact ⟨rg_none, rg_none⟩
  · exact ⟨hl, hr⟩
noncomputable def togS : FSpec := fun ds _ => match ds with
  | [.b a, .b b, .b c, .b d] => some { val := .one (.agg [.c (.bool (.sym (tg (a, b) (c, d)).1)), .c (.bool (.sym (tg (a, b) (c, d)).2))]), vc := [] }
  | _ => none
noncomputable def togC : Con := con [.agg [.c .bool, .c .bool], .agg [.c .bool, .c .bool]] togS
theorem tog_ok : ConOK Tryz.prog 127 togC := by
  refine fn_ob tt_ok mixed Tryz.func127 rfl (fun _ _ => by kernel_rfl) (A := fun ds => ⟨fun _ => Cons.of [], fun _ => none, fun _ => none⟩) (fun _ _ => cons_nil) (by kernel_rfl) ?_
  intro ds fr
  unfold togS
  split
  · rename_i a b c d
    refine kmp (q := (a || c) = (tg (a, b) (c, d)).fst ∧ (b || d) = (tg (a, b) (c, d)).snd) (by kernel_rfl) ?_
    exact ⟨rfl, rfl⟩
  · trivial
noncomputable def negS : FSpec := fun ds _ => match ds with
  | [.i a, .i b] => some { val := .tup [.agg [.c (.int .i64 (.sym ((negI (a, b)).1.1))), .c (.int .i64 (.sym ((negI (a, b)).1.2)))], .agg [.c (.bool (.sym (negI (a, b)).2.1)), .c (.bool (.sym (negI (a, b)).2.2))]], vc := [Rg (a, b)] }
  | _ => none
noncomputable def negC : Con := con [itvA] negS
theorem neg_ok : ConOK Tryz.prog 126 negC := by
  refine fn_ob tt_ok mixed Tryz.func126 rfl (fun _ _ => by kernel_rfl) (A := fun ds => ⟨fun _ => Cons.of [(128, doC), (16, iconstC)], fun _ => none, fun _ => none⟩) (fun _ _ => (cons_cons do_con (cons_cons iconst_ok cons_nil))) (by kernel_rfl) ?_
  intro ds fr
  unfold negS
  split
  · rename_i a b
    refine kmp (q := Rg (a, b) → Rg (ofLo (0 : Int) (0 : Int), ofHi (0 : Int) (0 : Int)) ∧ Rg (a, b) ∧ (doI (5 : Int) (ofLo (0 : Int) (0 : Int), ofHi (0 : Int) (0 : Int)) (a, b)).fst.fst = (negI (a, b)).fst.fst ∧ (doI (5 : Int) (ofLo (0 : Int) (0 : Int), ofHi (0 : Int) (0 : Int)) (a, b)).fst.snd = (negI (a, b)).fst.snd ∧ (doI (5 : Int) (ofLo (0 : Int) (0 : Int), ofHi (0 : Int) (0 : Int)) (a, b)).snd.fst = (negI (a, b)).snd.fst ∧ (doI (5 : Int) (ofLo (0 : Int) (0 : Int), ofHi (0 : Int) (0 : Int)) (a, b)).snd.snd = (negI (a, b)).snd.snd) (by kernel_rfl) ?_
    intro h
    have e : (ofLo 0 0, ofHi 0 0) = ((0, 0) : Int × Int) := by decide
    rw [e]
    exact ⟨.inr (by decide), h, rfl, rfl, rfl, rfl⟩
  · trivial
noncomputable def reckS : FSpec := fun ds _ => match ds with
  | [.i k, .i n, .i v, .d d, .d I] => some { val := .tup [.agg [.c (.int .i64 (.sym ((recP I (ex k n v d)).1.1))), .c (.int .i64 (.sym ((recP I (ex k n v d)).1.2)))], .agg [.c (.bool (.sym (recP I (ex k n v d)).2.1)), .c (.bool (.sym (recP I (ex k n v d)).2.2))]], vc := [RgI I] }
  | _ => none
noncomputable def reckC : Con := con [xpA, .sc (.rows 53)] reckS
noncomputable def reckM : List Dat → Nat := fun ds => match ds with
  | [.i _k, .i _n, .i _v, .d d, .d _I] => SizeOf.sizeOf d
  | _ => 0
noncomputable def reckSu (m : Nat) : FSpec := fun ds _ => match ds with
  | [.i k, .i n, .i v, .d d, .d I] => some { val := .tup [.agg [.c (.int .i64 (.sym ((recP I (ex k n v d)).1.1))), .c (.int .i64 (.sym ((recP I (ex k n v d)).1.2)))], .agg [.c (.bool (.sym (recP I (ex k n v d)).2.1)), .c (.bool (.sym (recP I (ex k n v d)).2.2))]], vc := [SizeOf.sizeOf d < m, RgI I] }
  | _ => none
theorem reck_under (m : Nat) : reckS.under reckM m = reckSu m := by
  funext ds fr
  unfold FSpec.under reckS reckM reckSu
  split
  · rename_i e h
    split at h
    · obtain rfl := Option.some.inj h; rfl
    · cases h
  · rename_i h
    split at h
    · cases h
    · rfl
noncomputable def ebothS (m : Nat) : FSpec := fun ds _ => match ds with
  | [.i k, .i n, .i v, .d d, .i k2, .i n2, .i v2, .d d2, .d I] => some { val := .tup [.agg [.c (.int .i64 (.sym ((bothI (recP I (ex k n v d)) (recP I (ex k2 n2 v2 d2))).1.1))), .c (.int .i64 (.sym ((bothI (recP I (ex k n v d)) (recP I (ex k2 n2 v2 d2))).1.2)))], .agg [.c (.int .i64 (.sym ((bothI (recP I (ex k n v d)) (recP I (ex k2 n2 v2 d2))).2.1.1))), .c (.int .i64 (.sym ((bothI (recP I (ex k n v d)) (recP I (ex k2 n2 v2 d2))).2.1.2)))], .agg [.c (.bool (.sym (bothI (recP I (ex k n v d)) (recP I (ex k2 n2 v2 d2))).2.2.1)), .c (.bool (.sym (bothI (recP I (ex k n v d)) (recP I (ex k2 n2 v2 d2))).2.2.2))]], vc := [SizeOf.sizeOf d < m, SizeOf.sizeOf d2 < m, RgI I] }
  | _ => none
noncomputable def ebothC (m : Nat) : Con := con [xpA, xpA, .sc (.rows 53)] (ebothS m)
theorem eboth_ok {m : Nat} (ih : ConOK Tryz.prog 106 (con [xpA, .sc (.rows 53)] (reckSu m))) : ConOK Tryz.prog 110 (ebothC m) := by
  refine fn_ob tt_ok mixed Tryz.func110 rfl (fun _ _ => by kernel_rfl) (A := fun ds => ⟨fun _ => Cons.of [(106, con [xpA, .sc (.rows 53)] (reckSu m)), (48, emptyC), (37, inoneC), (127, togC)], fun _ => none, fun _ => none⟩) (fun _ _ => (cons_cons ih (cons_cons empty_ok (cons_cons inone_ok (cons_cons tog_ok cons_nil))))) (by kernel_rfl) ?_
  intro ds fr
  unfold ebothS
  split
  · rename_i k n v d k2 n2 v2 d2 I
    refine kmp (q := SizeOf.sizeOf d < m → SizeOf.sizeOf d2 < m → RgI I → SizeOf.sizeOf d < m ∧ RgI I ∧ (decide ((recP I (ex k n v d)).fst.snd < (recP I (ex k n v d)).fst.fst) = true → (1 : Int) = (bothI (recP I (ex k n v d)) (recP I (ex k2 n2 v2 d2))).fst.fst ∧ (0 : Int) = (bothI (recP I (ex k n v d)) (recP I (ex k2 n2 v2 d2))).fst.snd ∧ (1 : Int) = (bothI (recP I (ex k n v d)) (recP I (ex k2 n2 v2 d2))).snd.fst.fst ∧ (0 : Int) = (bothI (recP I (ex k n v d)) (recP I (ex k2 n2 v2 d2))).snd.fst.snd ∧ (recP I (ex k n v d)).snd.fst = (bothI (recP I (ex k n v d)) (recP I (ex k2 n2 v2 d2))).snd.snd.fst ∧ (recP I (ex k n v d)).snd.snd = (bothI (recP I (ex k n v d)) (recP I (ex k2 n2 v2 d2))).snd.snd.snd) ∧ (decide ((recP I (ex k n v d)).fst.snd < (recP I (ex k n v d)).fst.fst) = false → SizeOf.sizeOf d2 < m ∧ RgI I ∧ (recP I (ex k n v d)).fst.fst = (bothI (recP I (ex k n v d)) (recP I (ex k2 n2 v2 d2))).fst.fst ∧ (recP I (ex k n v d)).fst.snd = (bothI (recP I (ex k n v d)) (recP I (ex k2 n2 v2 d2))).fst.snd ∧ (recP I (ex k2 n2 v2 d2)).fst.fst = (bothI (recP I (ex k n v d)) (recP I (ex k2 n2 v2 d2))).snd.fst.fst ∧ (recP I (ex k2 n2 v2 d2)).fst.snd = (bothI (recP I (ex k n v d)) (recP I (ex k2 n2 v2 d2))).snd.fst.snd ∧ (tg ((recP I (ex k n v d)).snd.fst, (recP I (ex k n v d)).snd.snd) ((recP I (ex k2 n2 v2 d2)).snd.fst, (recP I (ex k2 n2 v2 d2)).snd.snd)).fst = (bothI (recP I (ex k n v d)) (recP I (ex k2 n2 v2 d2))).snd.snd.fst ∧ (tg ((recP I (ex k n v d)).snd.fst, (recP I (ex k n v d)).snd.snd) ((recP I (ex k2 n2 v2 d2)).snd.fst, (recP I (ex k2 n2 v2 d2)).snd.snd)).snd = (bothI (recP I (ex k n v d)) (recP I (ex k2 n2 v2 d2))).snd.snd.snd)) (by kernel_rfl) ?_
    intro h1 h2 hI
    unfold bothI
    generalize recP I (ex k n v d) = l
    generalize recP I (ex k2 n2 v2 d2) = r
    refine ⟨h1, hI, fun h => ?_, fun h => ⟨h2, hI, ?_⟩⟩
    · have h : l.1.2 < l.1.1 := by simpa using h
      rw [if_pos h]; exact ⟨rfl, rfl, rfl, rfl, rfl, rfl⟩
    · have h : ¬ l.1.2 < l.1.1 := by simpa using h
      rw [if_neg h]; exact ⟨rfl, rfl, rfl, rfl, rfl, rfl⟩
  · trivial
theorem reck_step (m : Nat) (ih : ConOK Tryz.prog 106 (con [xpA, .sc (.rows 53)] (reckSu m))) : ConOK Tryz.prog 106 (con [xpA, .sc (.rows 53)] (reckSu (m + 1))) := by
  refine fn_ob tt_ok mixed Tryz.func106 rfl (fun _ _ => by kernel_rfl) (A := fun ds => ⟨fun _ => Cons.of [(106, con [xpA, .sc (.rows 53)] (reckSu m)), (110, (ebothC m)), (126, negC), (128, doC), (127, togC), (16, iconstC), (37, inoneC)], fun _ => none, fun _ => none⟩) (fun _ _ => (cons_cons ih (cons_cons (eboth_ok ih) (cons_cons neg_ok (cons_cons do_con (cons_cons tog_ok (cons_cons iconst_ok (cons_cons inone_ok cons_nil)))))))) (by kernel_rfl) ?_
  intro ds fr
  unfold reckSu
  split
  · rename_i k n v d I
    refine kmp (q := SizeOf.sizeOf d < m + 1 → RgI I → ((k == (1 : Int)) = true → ofLo n n = (recP I (ex k n v d)).fst.fst ∧ ofHi n n = (recP I (ex k n v d)).fst.snd ∧ false = (recP I (ex k n v d)).snd.fst ∧ false = (recP I (ex k n v d)).snd.snd) ∧ ((k == (1 : Int)) = false → ((k == (2 : Int) && decide (v ≥ (0 : Int)) && decide (v < (↑I.len : Int))) = true → ((0 : Int) ≤ v ∧ v < (↑I.len : Int)) ∧ (I.el v.toNat 0).toI = (recP I (ex k n v d)).fst.fst ∧ (I.el v.toNat (0 + 1)).toI = (recP I (ex k n v d)).fst.snd ∧ false = (recP I (ex k n v d)).snd.fst ∧ false = (recP I (ex k n v d)).snd.snd) ∧ ((k == (2 : Int) && decide (v ≥ (0 : Int)) && decide (v < (↑I.len : Int))) = false → ((k == (3 : Int) && (↑d.len : Int) == (1 : Int)) = true → nat_lit 0 < d.len ∧ SizeOf.sizeOf (d.el (nat_lit 0) (0 + 1 + 1 + 1)) < m ∧ RgI I ∧ Rg ((recP I (ex (d.el (nat_lit 0) 0).toI (d.el (nat_lit 0) (0 + 1)).toI (d.el (nat_lit 0) (0 + 1 + 1)).toI (d.el (nat_lit 0) (0 + 1 + 1 + 1)))).fst.fst, (recP I (ex (d.el (nat_lit 0) 0).toI (d.el (nat_lit 0) (0 + 1)).toI (d.el (nat_lit 0) (0 + 1 + 1)).toI (d.el (nat_lit 0) (0 + 1 + 1 + 1)))).fst.snd) ∧ (negI ((recP I (ex (d.el (nat_lit 0) 0).toI (d.el (nat_lit 0) (0 + 1)).toI (d.el (nat_lit 0) (0 + 1 + 1)).toI (d.el (nat_lit 0) (0 + 1 + 1 + 1)))).fst.fst, (recP I (ex (d.el (nat_lit 0) 0).toI (d.el (nat_lit 0) (0 + 1)).toI (d.el (nat_lit 0) (0 + 1 + 1)).toI (d.el (nat_lit 0) (0 + 1 + 1 + 1)))).fst.snd)).fst.fst = (recP I (ex k n v d)).fst.fst ∧ (negI ((recP I (ex (d.el (nat_lit 0) 0).toI (d.el (nat_lit 0) (0 + 1)).toI (d.el (nat_lit 0) (0 + 1 + 1)).toI (d.el (nat_lit 0) (0 + 1 + 1 + 1)))).fst.fst, (recP I (ex (d.el (nat_lit 0) 0).toI (d.el (nat_lit 0) (0 + 1)).toI (d.el (nat_lit 0) (0 + 1 + 1)).toI (d.el (nat_lit 0) (0 + 1 + 1 + 1)))).fst.snd)).fst.snd = (recP I (ex k n v d)).fst.snd ∧ (tg ((recP I (ex (d.el (nat_lit 0) 0).toI (d.el (nat_lit 0) (0 + 1)).toI (d.el (nat_lit 0) (0 + 1 + 1)).toI (d.el (nat_lit 0) (0 + 1 + 1 + 1)))).snd.fst, (recP I (ex (d.el (nat_lit 0) 0).toI (d.el (nat_lit 0) (0 + 1)).toI (d.el (nat_lit 0) (0 + 1 + 1)).toI (d.el (nat_lit 0) (0 + 1 + 1 + 1)))).snd.snd) ((negI ((recP I (ex (d.el (nat_lit 0) 0).toI (d.el (nat_lit 0) (0 + 1)).toI (d.el (nat_lit 0) (0 + 1 + 1)).toI (d.el (nat_lit 0) (0 + 1 + 1 + 1)))).fst.fst, (recP I (ex (d.el (nat_lit 0) 0).toI (d.el (nat_lit 0) (0 + 1)).toI (d.el (nat_lit 0) (0 + 1 + 1)).toI (d.el (nat_lit 0) (0 + 1 + 1 + 1)))).fst.snd)).snd.fst, (negI ((recP I (ex (d.el (nat_lit 0) 0).toI (d.el (nat_lit 0) (0 + 1)).toI (d.el (nat_lit 0) (0 + 1 + 1)).toI (d.el (nat_lit 0) (0 + 1 + 1 + 1)))).fst.fst, (recP I (ex (d.el (nat_lit 0) 0).toI (d.el (nat_lit 0) (0 + 1)).toI (d.el (nat_lit 0) (0 + 1 + 1)).toI (d.el (nat_lit 0) (0 + 1 + 1 + 1)))).fst.snd)).snd.snd)).fst = (recP I (ex k n v d)).snd.fst ∧ (tg ((recP I (ex (d.el (nat_lit 0) 0).toI (d.el (nat_lit 0) (0 + 1)).toI (d.el (nat_lit 0) (0 + 1 + 1)).toI (d.el (nat_lit 0) (0 + 1 + 1 + 1)))).snd.fst, (recP I (ex (d.el (nat_lit 0) 0).toI (d.el (nat_lit 0) (0 + 1)).toI (d.el (nat_lit 0) (0 + 1 + 1)).toI (d.el (nat_lit 0) (0 + 1 + 1 + 1)))).snd.snd) ((negI ((recP I (ex (d.el (nat_lit 0) 0).toI (d.el (nat_lit 0) (0 + 1)).toI (d.el (nat_lit 0) (0 + 1 + 1)).toI (d.el (nat_lit 0) (0 + 1 + 1 + 1)))).fst.fst, (recP I (ex (d.el (nat_lit 0) 0).toI (d.el (nat_lit 0) (0 + 1)).toI (d.el (nat_lit 0) (0 + 1 + 1)).toI (d.el (nat_lit 0) (0 + 1 + 1 + 1)))).fst.snd)).snd.fst, (negI ((recP I (ex (d.el (nat_lit 0) 0).toI (d.el (nat_lit 0) (0 + 1)).toI (d.el (nat_lit 0) (0 + 1 + 1)).toI (d.el (nat_lit 0) (0 + 1 + 1 + 1)))).fst.fst, (recP I (ex (d.el (nat_lit 0) 0).toI (d.el (nat_lit 0) (0 + 1)).toI (d.el (nat_lit 0) (0 + 1 + 1)).toI (d.el (nat_lit 0) (0 + 1 + 1 + 1)))).fst.snd)).snd.snd)).snd = (recP I (ex k n v d)).snd.snd) ∧ ((k == (3 : Int) && (↑d.len : Int) == (1 : Int)) = false → (((↑d.len : Int) == (2 : Int)) = true → nat_lit 0 < d.len ∧ nat_lit 1 < d.len ∧ SizeOf.sizeOf (d.el (nat_lit 0) (0 + 1 + 1 + 1)) < m ∧ SizeOf.sizeOf (d.el (nat_lit 1) (0 + 1 + 1 + 1)) < m ∧ RgI I ∧ Rg ((bothI (recP I (ex (d.el (nat_lit 0) 0).toI (d.el (nat_lit 0) (0 + 1)).toI (d.el (nat_lit 0) (0 + 1 + 1)).toI (d.el (nat_lit 0) (0 + 1 + 1 + 1)))) (recP I (ex (d.el (nat_lit 1) 0).toI (d.el (nat_lit 1) (0 + 1)).toI (d.el (nat_lit 1) (0 + 1 + 1)).toI (d.el (nat_lit 1) (0 + 1 + 1 + 1))))).fst.fst, (bothI (recP I (ex (d.el (nat_lit 0) 0).toI (d.el (nat_lit 0) (0 + 1)).toI (d.el (nat_lit 0) (0 + 1 + 1)).toI (d.el (nat_lit 0) (0 + 1 + 1 + 1)))) (recP I (ex (d.el (nat_lit 1) 0).toI (d.el (nat_lit 1) (0 + 1)).toI (d.el (nat_lit 1) (0 + 1 + 1)).toI (d.el (nat_lit 1) (0 + 1 + 1 + 1))))).fst.snd) ∧ Rg ((bothI (recP I (ex (d.el (nat_lit 0) 0).toI (d.el (nat_lit 0) (0 + 1)).toI (d.el (nat_lit 0) (0 + 1 + 1)).toI (d.el (nat_lit 0) (0 + 1 + 1 + 1)))) (recP I (ex (d.el (nat_lit 1) 0).toI (d.el (nat_lit 1) (0 + 1)).toI (d.el (nat_lit 1) (0 + 1 + 1)).toI (d.el (nat_lit 1) (0 + 1 + 1 + 1))))).snd.fst.fst, (bothI (recP I (ex (d.el (nat_lit 0) 0).toI (d.el (nat_lit 0) (0 + 1)).toI (d.el (nat_lit 0) (0 + 1 + 1)).toI (d.el (nat_lit 0) (0 + 1 + 1 + 1)))) (recP I (ex (d.el (nat_lit 1) 0).toI (d.el (nat_lit 1) (0 + 1)).toI (d.el (nat_lit 1) (0 + 1 + 1)).toI (d.el (nat_lit 1) (0 + 1 + 1 + 1))))).snd.fst.snd) ∧ (doI k ((bothI (recP I (ex (d.el (nat_lit 0) 0).toI (d.el (nat_lit 0) (0 + 1)).toI (d.el (nat_lit 0) (0 + 1 + 1)).toI (d.el (nat_lit 0) (0 + 1 + 1 + 1)))) (recP I (ex (d.el (nat_lit 1) 0).toI (d.el (nat_lit 1) (0 + 1)).toI (d.el (nat_lit 1) (0 + 1 + 1)).toI (d.el (nat_lit 1) (0 + 1 + 1 + 1))))).fst.fst, (bothI (recP I (ex (d.el (nat_lit 0) 0).toI (d.el (nat_lit 0) (0 + 1)).toI (d.el (nat_lit 0) (0 + 1 + 1)).toI (d.el (nat_lit 0) (0 + 1 + 1 + 1)))) (recP I (ex (d.el (nat_lit 1) 0).toI (d.el (nat_lit 1) (0 + 1)).toI (d.el (nat_lit 1) (0 + 1 + 1)).toI (d.el (nat_lit 1) (0 + 1 + 1 + 1))))).fst.snd) ((bothI (recP I (ex (d.el (nat_lit 0) 0).toI (d.el (nat_lit 0) (0 + 1)).toI (d.el (nat_lit 0) (0 + 1 + 1)).toI (d.el (nat_lit 0) (0 + 1 + 1 + 1)))) (recP I (ex (d.el (nat_lit 1) 0).toI (d.el (nat_lit 1) (0 + 1)).toI (d.el (nat_lit 1) (0 + 1 + 1)).toI (d.el (nat_lit 1) (0 + 1 + 1 + 1))))).snd.fst.fst, (bothI (recP I (ex (d.el (nat_lit 0) 0).toI (d.el (nat_lit 0) (0 + 1)).toI (d.el (nat_lit 0) (0 + 1 + 1)).toI (d.el (nat_lit 0) (0 + 1 + 1 + 1)))) (recP I (ex (d.el (nat_lit 1) 0).toI (d.el (nat_lit 1) (0 + 1)).toI (d.el (nat_lit 1) (0 + 1 + 1)).toI (d.el (nat_lit 1) (0 + 1 + 1 + 1))))).snd.fst.snd)).fst.fst = (recP I (ex k n v d)).fst.fst ∧ (doI k ((bothI (recP I (ex (d.el (nat_lit 0) 0).toI (d.el (nat_lit 0) (0 + 1)).toI (d.el (nat_lit 0) (0 + 1 + 1)).toI (d.el (nat_lit 0) (0 + 1 + 1 + 1)))) (recP I (ex (d.el (nat_lit 1) 0).toI (d.el (nat_lit 1) (0 + 1)).toI (d.el (nat_lit 1) (0 + 1 + 1)).toI (d.el (nat_lit 1) (0 + 1 + 1 + 1))))).fst.fst, (bothI (recP I (ex (d.el (nat_lit 0) 0).toI (d.el (nat_lit 0) (0 + 1)).toI (d.el (nat_lit 0) (0 + 1 + 1)).toI (d.el (nat_lit 0) (0 + 1 + 1 + 1)))) (recP I (ex (d.el (nat_lit 1) 0).toI (d.el (nat_lit 1) (0 + 1)).toI (d.el (nat_lit 1) (0 + 1 + 1)).toI (d.el (nat_lit 1) (0 + 1 + 1 + 1))))).fst.snd) ((bothI (recP I (ex (d.el (nat_lit 0) 0).toI (d.el (nat_lit 0) (0 + 1)).toI (d.el (nat_lit 0) (0 + 1 + 1)).toI (d.el (nat_lit 0) (0 + 1 + 1 + 1)))) (recP I (ex (d.el (nat_lit 1) 0).toI (d.el (nat_lit 1) (0 + 1)).toI (d.el (nat_lit 1) (0 + 1 + 1)).toI (d.el (nat_lit 1) (0 + 1 + 1 + 1))))).snd.fst.fst, (bothI (recP I (ex (d.el (nat_lit 0) 0).toI (d.el (nat_lit 0) (0 + 1)).toI (d.el (nat_lit 0) (0 + 1 + 1)).toI (d.el (nat_lit 0) (0 + 1 + 1 + 1)))) (recP I (ex (d.el (nat_lit 1) 0).toI (d.el (nat_lit 1) (0 + 1)).toI (d.el (nat_lit 1) (0 + 1 + 1)).toI (d.el (nat_lit 1) (0 + 1 + 1 + 1))))).snd.fst.snd)).fst.snd = (recP I (ex k n v d)).fst.snd ∧ (tg ((bothI (recP I (ex (d.el (nat_lit 0) 0).toI (d.el (nat_lit 0) (0 + 1)).toI (d.el (nat_lit 0) (0 + 1 + 1)).toI (d.el (nat_lit 0) (0 + 1 + 1 + 1)))) (recP I (ex (d.el (nat_lit 1) 0).toI (d.el (nat_lit 1) (0 + 1)).toI (d.el (nat_lit 1) (0 + 1 + 1)).toI (d.el (nat_lit 1) (0 + 1 + 1 + 1))))).snd.snd.fst, (bothI (recP I (ex (d.el (nat_lit 0) 0).toI (d.el (nat_lit 0) (0 + 1)).toI (d.el (nat_lit 0) (0 + 1 + 1)).toI (d.el (nat_lit 0) (0 + 1 + 1 + 1)))) (recP I (ex (d.el (nat_lit 1) 0).toI (d.el (nat_lit 1) (0 + 1)).toI (d.el (nat_lit 1) (0 + 1 + 1)).toI (d.el (nat_lit 1) (0 + 1 + 1 + 1))))).snd.snd.snd) ((doI k ((bothI (recP I (ex (d.el (nat_lit 0) 0).toI (d.el (nat_lit 0) (0 + 1)).toI (d.el (nat_lit 0) (0 + 1 + 1)).toI (d.el (nat_lit 0) (0 + 1 + 1 + 1)))) (recP I (ex (d.el (nat_lit 1) 0).toI (d.el (nat_lit 1) (0 + 1)).toI (d.el (nat_lit 1) (0 + 1 + 1)).toI (d.el (nat_lit 1) (0 + 1 + 1 + 1))))).fst.fst, (bothI (recP I (ex (d.el (nat_lit 0) 0).toI (d.el (nat_lit 0) (0 + 1)).toI (d.el (nat_lit 0) (0 + 1 + 1)).toI (d.el (nat_lit 0) (0 + 1 + 1 + 1)))) (recP I (ex (d.el (nat_lit 1) 0).toI (d.el (nat_lit 1) (0 + 1)).toI (d.el (nat_lit 1) (0 + 1 + 1)).toI (d.el (nat_lit 1) (0 + 1 + 1 + 1))))).fst.snd) ((bothI (recP I (ex (d.el (nat_lit 0) 0).toI (d.el (nat_lit 0) (0 + 1)).toI (d.el (nat_lit 0) (0 + 1 + 1)).toI (d.el (nat_lit 0) (0 + 1 + 1 + 1)))) (recP I (ex (d.el (nat_lit 1) 0).toI (d.el (nat_lit 1) (0 + 1)).toI (d.el (nat_lit 1) (0 + 1 + 1)).toI (d.el (nat_lit 1) (0 + 1 + 1 + 1))))).snd.fst.fst, (bothI (recP I (ex (d.el (nat_lit 0) 0).toI (d.el (nat_lit 0) (0 + 1)).toI (d.el (nat_lit 0) (0 + 1 + 1)).toI (d.el (nat_lit 0) (0 + 1 + 1 + 1)))) (recP I (ex (d.el (nat_lit 1) 0).toI (d.el (nat_lit 1) (0 + 1)).toI (d.el (nat_lit 1) (0 + 1 + 1)).toI (d.el (nat_lit 1) (0 + 1 + 1 + 1))))).snd.fst.snd)).snd.fst, (doI k ((bothI (recP I (ex (d.el (nat_lit 0) 0).toI (d.el (nat_lit 0) (0 + 1)).toI (d.el (nat_lit 0) (0 + 1 + 1)).toI (d.el (nat_lit 0) (0 + 1 + 1 + 1)))) (recP I (ex (d.el (nat_lit 1) 0).toI (d.el (nat_lit 1) (0 + 1)).toI (d.el (nat_lit 1) (0 + 1 + 1)).toI (d.el (nat_lit 1) (0 + 1 + 1 + 1))))).fst.fst, (bothI (recP I (ex (d.el (nat_lit 0) 0).toI (d.el (nat_lit 0) (0 + 1)).toI (d.el (nat_lit 0) (0 + 1 + 1)).toI (d.el (nat_lit 0) (0 + 1 + 1 + 1)))) (recP I (ex (d.el (nat_lit 1) 0).toI (d.el (nat_lit 1) (0 + 1)).toI (d.el (nat_lit 1) (0 + 1 + 1)).toI (d.el (nat_lit 1) (0 + 1 + 1 + 1))))).fst.snd) ((bothI (recP I (ex (d.el (nat_lit 0) 0).toI (d.el (nat_lit 0) (0 + 1)).toI (d.el (nat_lit 0) (0 + 1 + 1)).toI (d.el (nat_lit 0) (0 + 1 + 1 + 1)))) (recP I (ex (d.el (nat_lit 1) 0).toI (d.el (nat_lit 1) (0 + 1)).toI (d.el (nat_lit 1) (0 + 1 + 1)).toI (d.el (nat_lit 1) (0 + 1 + 1 + 1))))).snd.fst.fst, (bothI (recP I (ex (d.el (nat_lit 0) 0).toI (d.el (nat_lit 0) (0 + 1)).toI (d.el (nat_lit 0) (0 + 1 + 1)).toI (d.el (nat_lit 0) (0 + 1 + 1 + 1)))) (recP I (ex (d.el (nat_lit 1) 0).toI (d.el (nat_lit 1) (0 + 1)).toI (d.el (nat_lit 1) (0 + 1 + 1)).toI (d.el (nat_lit 1) (0 + 1 + 1 + 1))))).snd.fst.snd)).snd.snd)).fst = (recP I (ex k n v d)).snd.fst ∧ (tg ((bothI (recP I (ex (d.el (nat_lit 0) 0).toI (d.el (nat_lit 0) (0 + 1)).toI (d.el (nat_lit 0) (0 + 1 + 1)).toI (d.el (nat_lit 0) (0 + 1 + 1 + 1)))) (recP I (ex (d.el (nat_lit 1) 0).toI (d.el (nat_lit 1) (0 + 1)).toI (d.el (nat_lit 1) (0 + 1 + 1)).toI (d.el (nat_lit 1) (0 + 1 + 1 + 1))))).snd.snd.fst, (bothI (recP I (ex (d.el (nat_lit 0) 0).toI (d.el (nat_lit 0) (0 + 1)).toI (d.el (nat_lit 0) (0 + 1 + 1)).toI (d.el (nat_lit 0) (0 + 1 + 1 + 1)))) (recP I (ex (d.el (nat_lit 1) 0).toI (d.el (nat_lit 1) (0 + 1)).toI (d.el (nat_lit 1) (0 + 1 + 1)).toI (d.el (nat_lit 1) (0 + 1 + 1 + 1))))).snd.snd.snd) ((doI k ((bothI (recP I (ex (d.el (nat_lit 0) 0).toI (d.el (nat_lit 0) (0 + 1)).toI (d.el (nat_lit 0) (0 + 1 + 1)).toI (d.el (nat_lit 0) (0 + 1 + 1 + 1)))) (recP I (ex (d.el (nat_lit 1) 0).toI (d.el (nat_lit 1) (0 + 1)).toI (d.el (nat_lit 1) (0 + 1 + 1)).toI (d.el (nat_lit 1) (0 + 1 + 1 + 1))))).fst.fst, (bothI (recP I (ex (d.el (nat_lit 0) 0).toI (d.el (nat_lit 0) (0 + 1)).toI (d.el (nat_lit 0) (0 + 1 + 1)).toI (d.el (nat_lit 0) (0 + 1 + 1 + 1)))) (recP I (ex (d.el (nat_lit 1) 0).toI (d.el (nat_lit 1) (0 + 1)).toI (d.el (nat_lit 1) (0 + 1 + 1)).toI (d.el (nat_lit 1) (0 + 1 + 1 + 1))))).fst.snd) ((bothI (recP I (ex (d.el (nat_lit 0) 0).toI (d.el (nat_lit 0) (0 + 1)).toI (d.el (nat_lit 0) (0 + 1 + 1)).toI (d.el (nat_lit 0) (0 + 1 + 1 + 1)))) (recP I (ex (d.el (nat_lit 1) 0).toI (d.el (nat_lit 1) (0 + 1)).toI (d.el (nat_lit 1) (0 + 1 + 1)).toI (d.el (nat_lit 1) (0 + 1 + 1 + 1))))).snd.fst.fst, (bothI (recP I (ex (d.el (nat_lit 0) 0).toI (d.el (nat_lit 0) (0 + 1)).toI (d.el (nat_lit 0) (0 + 1 + 1)).toI (d.el (nat_lit 0) (0 + 1 + 1 + 1)))) (recP I (ex (d.el (nat_lit 1) 0).toI (d.el (nat_lit 1) (0 + 1)).toI (d.el (nat_lit 1) (0 + 1 + 1)).toI (d.el (nat_lit 1) (0 + 1 + 1 + 1))))).snd.fst.snd)).snd.fst, (doI k ((bothI (recP I (ex (d.el (nat_lit 0) 0).toI (d.el (nat_lit 0) (0 + 1)).toI (d.el (nat_lit 0) (0 + 1 + 1)).toI (d.el (nat_lit 0) (0 + 1 + 1 + 1)))) (recP I (ex (d.el (nat_lit 1) 0).toI (d.el (nat_lit 1) (0 + 1)).toI (d.el (nat_lit 1) (0 + 1 + 1)).toI (d.el (nat_lit 1) (0 + 1 + 1 + 1))))).fst.fst, (bothI (recP I (ex (d.el (nat_lit 0) 0).toI (d.el (nat_lit 0) (0 + 1)).toI (d.el (nat_lit 0) (0 + 1 + 1)).toI (d.el (nat_lit 0) (0 + 1 + 1 + 1)))) (recP I (ex (d.el (nat_lit 1) 0).toI (d.el (nat_lit 1) (0 + 1)).toI (d.el (nat_lit 1) (0 + 1 + 1)).toI (d.el (nat_lit 1) (0 + 1 + 1 + 1))))).fst.snd) ((bothI (recP I (ex (d.el (nat_lit 0) 0).toI (d.el (nat_lit 0) (0 + 1)).toI (d.el (nat_lit 0) (0 + 1 + 1)).toI (d.el (nat_lit 0) (0 + 1 + 1 + 1)))) (recP I (ex (d.el (nat_lit 1) 0).toI (d.el (nat_lit 1) (0 + 1)).toI (d.el (nat_lit 1) (0 + 1 + 1)).toI (d.el (nat_lit 1) (0 + 1 + 1 + 1))))).snd.fst.fst, (bothI (recP I (ex (d.el (nat_lit 0) 0).toI (d.el (nat_lit 0) (0 + 1)).toI (d.el (nat_lit 0) (0 + 1 + 1)).toI (d.el (nat_lit 0) (0 + 1 + 1 + 1)))) (recP I (ex (d.el (nat_lit 1) 0).toI (d.el (nat_lit 1) (0 + 1)).toI (d.el (nat_lit 1) (0 + 1 + 1)).toI (d.el (nat_lit 1) (0 + 1 + 1 + 1))))).snd.fst.snd)).snd.snd)).snd = (recP I (ex k n v d)).snd.snd) ∧ (((↑d.len : Int) == (2 : Int)) = false → (1 : Int) = (recP I (ex k n v d)).fst.fst ∧ (0 : Int) = (recP I (ex k n v d)).fst.snd ∧ false = (recP I (ex k n v d)).snd.fst ∧ false = (recP I (ex k n v d)).snd.snd))))) (by kernel_rfl) ?_
    intro hm hI
    have e0 : ∀ i, ex (d.el i 0).toI (d.el i (0 + 1)).toI (d.el i (0 + 1 + 1)).toI (d.el i (0 + 1 + 1 + 1)) = exE d i := fun i => rfl
    have z : ∀ i, i < d.len → SizeOf.sizeOf (d.el i (0 + 1 + 1 + 1)) < m := fun i hi => by have := el_lt (j := 0 + 1 + 1 + 1) hi; omega
    simp only [e0, rec_eq I k n v d]
    have r0 := rec_rg hI (exE d 0)
    have rb := both_rg r0 (rec_rg hI (exE d 1))
    have of2 : ∀ n, (ofLo n n = (ofI n n).1) ∧ (ofHi n n = (ofI n n).2) := fun n => ⟨rfl, rfl⟩
    refine ⟨fun c1 => ?_, fun c1 => ⟨fun c2 => ?_, fun c2 => ⟨fun c3 => ?_, fun c3 => ⟨fun c4 => ?_, fun c4 => ?_⟩⟩⟩⟩
    · have c1 : k = 1 := by simpa using c1
      rw [if_pos c1]; exact ⟨rfl, rfl, rfl, rfl⟩
    · have c1 : ¬ k = 1 := by simpa using c1
      have c2 : k = 2 ∧ 0 ≤ v ∧ v < I.len := by simp at c2; omega
      rw [if_neg c1, if_pos c2]; exact ⟨c2.2, rfl, rfl, rfl, rfl⟩
    · have c1 : ¬ k = 1 := by simpa using c1
      have c2 : ¬ (k = 2 ∧ 0 ≤ v ∧ v < I.len) := by simp at c2; omega
      have c3 : k = 3 ∧ d.len = 1 := by simp at c3; omega
      rw [if_neg c1, if_neg c2, if_pos c3]; exact ⟨by omega, z 0 (by omega), hI, r0, rfl, rfl, rfl, rfl⟩
    · have c1 : ¬ k = 1 := by simpa using c1
      have c2 : ¬ (k = 2 ∧ 0 ≤ v ∧ v < I.len) := by simp at c2; omega
      have c3 : ¬ (k = 3 ∧ d.len = 1) := by simp at c3; omega
      have c4 : d.len = 2 := by simp at c4; omega
      rw [if_neg c1, if_neg c2, if_neg c3, if_pos c4]; exact ⟨by omega, by omega, z 0 (by omega), z 1 (by omega), hI, rb.1, rb.2, rfl, rfl, rfl, rfl⟩
    · have c1 : ¬ k = 1 := by simpa using c1
      have c2 : ¬ (k = 2 ∧ 0 ≤ v ∧ v < I.len) := by simp at c2; omega
      have c3 : ¬ (k = 3 ∧ d.len = 1) := by simp at c3; omega
      have c4 : ¬ d.len = 2 := by simp at c4; omega
      rw [if_neg c1, if_neg c2, if_neg c3, if_neg c4]; exact ⟨rfl, rfl, rfl, rfl⟩
  · trivial
theorem reck_ok : ConOK Tryz.prog 106 reckC :=
  con_rec reckM (fun _ _ => by kernel_rfl) fun m ih => by
    rw [reck_under] at ih ⊢
    exact reck_step m ih
end Go.Proofs.YtlgmofjjjhbgkaaGreat.Sx.Z
namespace Go.Proofs.YtlgmofjjjhbgkaaGreat.Sx.Z
open Go.RowKit
def meetI (a b : Int × Int) : Int × Int := ofI (max a.1 b.1) (min a.2 b.2)
def unlI (a b : Int × Int) : Int × Int := if b.1 = b.2 ∧ b.1 = a.1 then ofI (a.1 + 1) a.2 else if b.1 = b.2 ∧ b.1 = a.2 then ofI a.1 (a.2 - 1) else ofI a.1 a.2
def undI (a b : Int × Int) (n : Int) : (Int × Int) × (Int × Int) := (ofI a.1 (min a.2 (b.2 - n)), ofI (max b.1 (a.1 + n)) b.2)
def tstI (op : Int) (a b : Int × Int) : (Int × Int) × (Int × Int) :=
  if a.2 < a.1 ∨ b.2 < b.1 then ((1, 0), (1, 0)) else if op = 1 then (meetI a b, meetI a b) else if op = 2 then (unlI a b, unlI b a) else if op = 3 then undI a b 1 else if op = 4 then undI a b 0
  else if op = 5 then ((undI b a 1).2, (undI b a 1).1) else if op = 6 then ((undI b a 0).2, (undI b a 0).1) else ((1, 0), (1, 0))
/-- Numbers that may be, from one to another one. -/
def Rz (p : Int × Int) : Prop := -2147483648 ≤ p.1 ∧ p.1 ≤ p.2 ∧ p.2 ≤ 2147483647
noncomputable def imeetS : FSpec := fun ds _ => match ds with
  | [.i a, .i b, .i c, .i d] => some { val := .one (.agg [.c (.int .i64 (.sym ((meetI (a, b) (c, d)).1))), .c (.int .i64 (.sym ((meetI (a, b) (c, d)).2)))]), vc := [] }
  | _ => none
noncomputable def imeetC : Con := con [itvA, itvA] imeetS
theorem imeet_ok : ConOK Tryz.prog 85 imeetC := by
  refine fn_ob tt_ok mixed Tryz.func85 rfl (fun _ _ => by kernel_rfl) (A := fun ds => ⟨fun _ => Cons.of [(21, iofC)], fun _ => none, fun _ => none⟩) (fun _ _ => (cons_cons iof_ok cons_nil)) (by kernel_rfl) ?_
  intro ds fr
  unfold imeetS
  split
  · rename_i a b c d
    refine kmp (q := ofLo (if c > a then c else a) (if d < b then d else b) = (meetI (a, b) (c, d)).fst ∧ ofHi (if c > a then c else a) (if d < b then d else b) = (meetI (a, b) (c, d)).snd) (by kernel_rfl) ?_
    have e1 : (if c > a then c else a) = max a c := by split <;> omega
    have e2 : (if d < b then d else b) = min b d := by split <;> omega
    rw [e1, e2]
    exact ⟨rfl, rfl⟩
  · trivial
noncomputable def iunlS : FSpec := fun ds _ => match ds with
  | [.i a, .i b, .i c, .i d] => some { val := .one (.agg [.c (.int .i64 (.sym ((unlI (a, b) (c, d)).1))), .c (.int .i64 (.sym ((unlI (a, b) (c, d)).2)))]), vc := [Rz (a, b), Rz (c, d)] }
  | _ => none
noncomputable def iunlC : Con := con [itvA, itvA] iunlS
theorem iunl_ok : ConOK Tryz.prog 130 iunlC := by
  refine fn_ob tt_ok mixed Tryz.func130 rfl (fun _ _ => by kernel_rfl) (A := fun ds => ⟨fun _ => Cons.of [(21, iofC)], fun _ => none, fun _ => none⟩) (fun _ _ => (cons_cons iof_ok cons_nil)) (by kernel_rfl) ?_
  intro ds fr
  unfold iunlS
  split
  · rename_i a b c d
    refine kmp (q := Rz (a, b) → Rz (c, d) → ((c == d) = true → ((c == a) = true → ofLo (IntKind.i64.wrap (a + (1 : Int))) b = (unlI (a, b) (c, d)).fst ∧ ofHi (IntKind.i64.wrap (a + (1 : Int))) b = (unlI (a, b) (c, d)).snd) ∧ ((c == a) = false → ((c == b) = true → ofLo a (IntKind.i64.wrap (b - (1 : Int))) = (unlI (a, b) (c, d)).fst ∧ ofHi a (IntKind.i64.wrap (b - (1 : Int))) = (unlI (a, b) (c, d)).snd) ∧ ((c == b) = false → ofLo a b = (unlI (a, b) (c, d)).fst ∧ ofHi a b = (unlI (a, b) (c, d)).snd))) ∧ ((c == d) = false → ofLo a b = (unlI (a, b) (c, d)).fst ∧ ofHi a b = (unlI (a, b) (c, d)).snd)) (by kernel_rfl) ?_
    intro h1 h2
    have w1 : IntKind.i64.wrap (a + 1) = a + 1 := wr _ (by have : -2147483648 ≤ a ∧ a ≤ b ∧ b ≤ 2147483647 := h1; omega)
    have w2 : IntKind.i64.wrap (b - 1) = b - 1 := wr _ (by have : -2147483648 ≤ a ∧ a ≤ b ∧ b ≤ 2147483647 := h1; omega)
    rw [w1, w2]
    unfold unlI ofI
    (repeat' first | apply And.intro | intro _) <;> grind
  · trivial
noncomputable def iundS : FSpec := fun ds _ => match ds with
  | [.i a, .i b, .i c, .i d, .i n] => some { val := .tup [.agg [.c (.int .i64 (.sym (((undI (a, b) (c, d) n).1).1))), .c (.int .i64 (.sym (((undI (a, b) (c, d) n).1).2)))], .agg [.c (.int .i64 (.sym (((undI (a, b) (c, d) n).2).1))), .c (.int .i64 (.sym (((undI (a, b) (c, d) n).2).2)))]], vc := [Rz (a, b), Rz (c, d), 0 ≤ n ∧ n ≤ 1] }
  | _ => none
noncomputable def iundC : Con := con [itvA, itvA, iA] iundS
theorem iund_ok : ConOK Tryz.prog 131 iundC := by
  refine fn_ob tt_ok mixed Tryz.func131 rfl (fun _ _ => by kernel_rfl) (A := fun ds => ⟨fun _ => Cons.of [(21, iofC)], fun _ => none, fun _ => none⟩) (fun _ _ => (cons_cons iof_ok cons_nil)) (by kernel_rfl) ?_
  intro ds fr
  unfold iundS
  split
  · rename_i a b c d n
    refine kmp (q := Rz (a, b) → Rz (c, d) → (0 : Int) ≤ n ∧ n ≤ (1 : Int) → ofLo a (if IntKind.i64.wrap (d - n) < b then IntKind.i64.wrap (d - n) else b) = (undI (a, b) (c, d) n).fst.fst ∧ ofHi a (if IntKind.i64.wrap (d - n) < b then IntKind.i64.wrap (d - n) else b) = (undI (a, b) (c, d) n).fst.snd ∧ ofLo (if IntKind.i64.wrap (a + n) > c then IntKind.i64.wrap (a + n) else c) d = (undI (a, b) (c, d) n).snd.fst ∧ ofHi (if IntKind.i64.wrap (a + n) > c then IntKind.i64.wrap (a + n) else c) d = (undI (a, b) (c, d) n).snd.snd) (by kernel_rfl) ?_
    intro h1 h2 hn
    have q1 : -2147483648 ≤ a ∧ a ≤ b ∧ b ≤ 2147483647 := h1
    have q2 : -2147483648 ≤ c ∧ c ≤ d ∧ d ≤ 2147483647 := h2
    have w1 : IntKind.i64.wrap (a + n) = a + n := wr _ (by omega)
    have w2 : IntKind.i64.wrap (d - n) = d - n := wr _ (by omega)
    rw [w1, w2]
    have e1 : (if a + n > c then a + n else c) = max c (a + n) := by split <;> omega
    have e2 : (if d - n < b then d - n else b) = min b (d - n) := by split <;> omega
    rw [e1, e2]
    exact ⟨rfl, rfl, rfl, rfl⟩
  · trivial
noncomputable def itestS : FSpec := fun ds _ => match ds with
  | [.i op, .i a, .i b, .i c, .i d] => some { val := .tup [.agg [.c (.int .i64 (.sym (((tstI op (a, b) (c, d)).1).1))), .c (.int .i64 (.sym (((tstI op (a, b) (c, d)).1).2)))], .agg [.c (.int .i64 (.sym (((tstI op (a, b) (c, d)).2).1))), .c (.int .i64 (.sym (((tstI op (a, b) (c, d)).2).2)))]], vc := [Rg (a, b), Rg (c, d)] }
  | _ => none
noncomputable def itestC : Con := con [iA, itvA, itvA] itestS
theorem itest_ok : ConOK Tryz.prog 111 itestC := by
  refine fn_ob tt_ok mixed Tryz.func111 rfl (fun _ _ => by kernel_rfl) (A := fun ds => ⟨fun _ => Cons.of [(48, emptyC), (37, inoneC), (85, imeetC), (130, iunlC), (131, iundC)], fun _ => none, fun _ => none⟩) (fun _ _ => (cons_cons empty_ok (cons_cons inone_ok (cons_cons imeet_ok (cons_cons iunl_ok (cons_cons iund_ok cons_nil)))))) (by kernel_rfl) ?_
  intro ds fr
  unfold itestS
  split
  · rename_i op a b c d
    refine kmp (q := Rg (a, b) → Rg (c, d) → ((decide (b < a) || decide (d < c)) = true → (1 : Int) = (tstI op (a, b) (c, d)).fst.fst ∧ (0 : Int) = (tstI op (a, b) (c, d)).fst.snd ∧ (1 : Int) = (tstI op (a, b) (c, d)).snd.fst ∧ (0 : Int) = (tstI op (a, b) (c, d)).snd.snd) ∧ ((decide (b < a) || decide (d < c)) = false → ((op == (1 : Int)) = true → (meetI (a, b) (c, d)).fst = (tstI op (a, b) (c, d)).fst.fst ∧ (meetI (a, b) (c, d)).snd = (tstI op (a, b) (c, d)).fst.snd ∧ (meetI (a, b) (c, d)).fst = (tstI op (a, b) (c, d)).snd.fst ∧ (meetI (a, b) (c, d)).snd = (tstI op (a, b) (c, d)).snd.snd) ∧ ((op == (1 : Int)) = false → ((op == (2 : Int)) = true → Rz (a, b) ∧ Rz (c, d) ∧ Rz (c, d) ∧ Rz (a, b) ∧ (unlI (a, b) (c, d)).fst = (tstI op (a, b) (c, d)).fst.fst ∧ (unlI (a, b) (c, d)).snd = (tstI op (a, b) (c, d)).fst.snd ∧ (unlI (c, d) (a, b)).fst = (tstI op (a, b) (c, d)).snd.fst ∧ (unlI (c, d) (a, b)).snd = (tstI op (a, b) (c, d)).snd.snd) ∧ ((op == (2 : Int)) = false → ((op == (3 : Int)) = true → Rz (a, b) ∧ Rz (c, d) ∧ ((0 : Int) ≤ (1 : Int) ∧ (1 : Int) ≤ (1 : Int)) ∧ (undI (a, b) (c, d) (1 : Int)).fst.fst = (tstI op (a, b) (c, d)).fst.fst ∧ (undI (a, b) (c, d) (1 : Int)).fst.snd = (tstI op (a, b) (c, d)).fst.snd ∧ (undI (a, b) (c, d) (1 : Int)).snd.fst = (tstI op (a, b) (c, d)).snd.fst ∧ (undI (a, b) (c, d) (1 : Int)).snd.snd = (tstI op (a, b) (c, d)).snd.snd) ∧ ((op == (3 : Int)) = false → ((op == (4 : Int)) = true → Rz (a, b) ∧ Rz (c, d) ∧ ((0 : Int) ≤ (0 : Int) ∧ (0 : Int) ≤ (1 : Int)) ∧ (undI (a, b) (c, d) (0 : Int)).fst.fst = (tstI op (a, b) (c, d)).fst.fst ∧ (undI (a, b) (c, d) (0 : Int)).fst.snd = (tstI op (a, b) (c, d)).fst.snd ∧ (undI (a, b) (c, d) (0 : Int)).snd.fst = (tstI op (a, b) (c, d)).snd.fst ∧ (undI (a, b) (c, d) (0 : Int)).snd.snd = (tstI op (a, b) (c, d)).snd.snd) ∧ ((op == (4 : Int)) = false → ((op == (5 : Int)) = true → Rz (c, d) ∧ Rz (a, b) ∧ ((0 : Int) ≤ (1 : Int) ∧ (1 : Int) ≤ (1 : Int)) ∧ (undI (c, d) (a, b) (1 : Int)).snd.fst = (tstI op (a, b) (c, d)).fst.fst ∧ (undI (c, d) (a, b) (1 : Int)).snd.snd = (tstI op (a, b) (c, d)).fst.snd ∧ (undI (c, d) (a, b) (1 : Int)).fst.fst = (tstI op (a, b) (c, d)).snd.fst ∧ (undI (c, d) (a, b) (1 : Int)).fst.snd = (tstI op (a, b) (c, d)).snd.snd) ∧ ((op == (5 : Int)) = false → ((op == (6 : Int)) = true → Rz (c, d) ∧ Rz (a, b) ∧ ((0 : Int) ≤ (0 : Int) ∧ (0 : Int) ≤ (1 : Int)) ∧ (undI (c, d) (a, b) (0 : Int)).snd.fst = (tstI op (a, b) (c, d)).fst.fst ∧ (undI (c, d) (a, b) (0 : Int)).snd.snd = (tstI op (a, b) (c, d)).fst.snd ∧ (undI (c, d) (a, b) (0 : Int)).fst.fst = (tstI op (a, b) (c, d)).snd.fst ∧ (undI (c, d) (a, b) (0 : Int)).fst.snd = (tstI op (a, b) (c, d)).snd.snd) ∧ ((op == (6 : Int)) = false → (1 : Int) = (tstI op (a, b) (c, d)).fst.fst ∧ (0 : Int) = (tstI op (a, b) (c, d)).fst.snd ∧ (1 : Int) = (tstI op (a, b) (c, d)).snd.fst ∧ (0 : Int) = (tstI op (a, b) (c, d)).snd.snd)))))))) (by kernel_rfl) ?_
    intro ha hb
    have hR : ¬ (b < a ∨ d < c) → Rz (a, b) ∧ Rz (c, d) := fun h => by
      have ha : b < a ∨ (-2147483648 ≤ a ∧ b ≤ 2147483647) := ha
      have hb : d < c ∨ (-2147483648 ≤ c ∧ d ≤ 2147483647) := hb
      exact ⟨by show _ ∧ _ ∧ _; dsimp only; omega, by show _ ∧ _ ∧ _; dsimp only; omega⟩
    refine ⟨fun h => ?_, fun h => ?_⟩
    · have h : b < a ∨ d < c := by simpa using h
      have e : tstI op (a, b) (c, d) = ((1, 0), (1, 0)) := if_pos h
      rw [e]; exact ⟨rfl, rfl, rfl, rfl⟩
    · have h : ¬ (b < a ∨ d < c) := by simp at h; omega
      obtain ⟨r1, r2⟩ := hR h
      have e0 : tstI op (a, b) (c, d) = _ := if_neg h
      refine ⟨fun o => ?_, fun o1 => ⟨fun o => ?_, fun o2 => ⟨fun o => ?_, fun o3 => ⟨fun o => ?_, fun o4 => ⟨fun o => ?_, fun o5 => ⟨fun o => ?_, fun o6 => ?_⟩⟩⟩⟩⟩⟩
      · have o : op = 1 := by simpa using o
        subst o; rw [e0]; exact ⟨rfl, rfl, rfl, rfl⟩
      · have o : op = 2 := by simpa using o
        subst o; rw [e0]; exact ⟨r1, r2, r2, r1, rfl, rfl, rfl, rfl⟩
      · have o : op = 3 := by simpa using o
        subst o; rw [e0]; exact ⟨r1, r2, by omega, rfl, rfl, rfl, rfl⟩
      · have o : op = 4 := by simpa using o
        subst o; rw [e0]; exact ⟨r1, r2, by omega, rfl, rfl, rfl, rfl⟩
      · have o : op = 5 := by simpa using o
        subst o; rw [e0]; exact ⟨r2, r1, by omega, rfl, rfl, rfl, rfl⟩
      · have o : op = 6 := by simpa using o
        subst o; rw [e0]; exact ⟨r2, r1, by omega, rfl, rfl, rfl, rfl⟩
      · simp at o1 o2 o3 o4 o5 o6
        rw [e0, if_neg o1, if_neg o2, if_neg o3, if_neg o4, if_neg o5, if_neg o6]
        exact ⟨rfl, rfl, rfl, rfl⟩
  · trivial
noncomputable def icloneS : FSpec := fun ds _ => match ds with
  | [.d I] => some { val := .one (.sc (.rows 53 I)), vc := [0 < I.len ∧ I.len ≤ 1000] }
  | _ => none
noncomputable def icloneC : Con := con [.sc (.rows 53)] icloneS
theorem iclone_ok : ConOK Tryz.prog 58 icloneC := by
  refine fn_ob tt_ok mixed Tryz.func58 rfl (fun _ _ => by kernel_rfl) (A := fun ds => ⟨fun _ => Cons.of [], fun _ => none, fun _ => none⟩) (fun _ _ => cons_nil) (by kernel_rfl) ?_
  intro ds fr
  unfold icloneS
  split
  · rename_i I
    refine kmp (q := 0 < I.len ∧ I.len ≤ 1000 → 0 < I.len ∧ 0 = (D.l []).len ∧ (0 + I.len) * 16 ≤ 140737488355328 ∧ nat_lit 0 + (0 + I.len) ≤ ((D.l []).app I).len ∧ List.drop (nat_lit 0) (List.take (nat_lit 0 + (0 + I.len)) ([] ++ I.rows)) = I.rows) (by kernel_rfl) ?_
    intro h
    have e : ((D.l []).app I).len = I.len := rfl
    refine ⟨h.1, rfl, by omega, (show 0 + (0 + I.len) ≤ I.len by simp), ?_⟩
    show (([] ++ I.rows).take (0 + (0 + I.rows.length))).drop 0 = I.rows
    simp
  · trivial
noncomputable def elessS : FSpec := fun ds _ => match ds with
  | [.i a, .i b, .i n] => some { val := .one (.agg [.c (.int .i64 (.sym (a - n))), .c (.int .i64 (.sym (b - n)))]), vc := [Rz (a, b), -1099511627776 ≤ n ∧ n ≤ 1099511627776] }
  | _ => none
noncomputable def elessC : Con := con [itvA, iA] elessS
theorem eless_ok : ConOK Tryz.prog 132 elessC := by
  refine fn_ob tt_ok mixed Tryz.func132 rfl (fun _ _ => by kernel_rfl) (A := fun ds => ⟨fun _ => Cons.of [], fun _ => none, fun _ => none⟩) (fun _ _ => cons_nil) (by kernel_rfl) ?_
  intro ds fr
  unfold elessS
  split
  · rename_i a b n
    refine kmp (q := Rz (a, b) → (-1099511627776 : Int) ≤ n ∧ n ≤ (1099511627776 : Int) → IntKind.i64.wrap (a - n) = a - n ∧ IntKind.i64.wrap (b - n) = b - n) (by kernel_rfl) ?_
    intro h hn
    have q1 : -2147483648 ≤ a ∧ a ≤ b ∧ b ≤ 2147483647 := h
    exact ⟨wr _ (by omega), wr _ (by omega)⟩
  · trivial
end Go.Proofs.YtlgmofjjjhbgkaaGreat.Sx.Z
