/-
  ast.Text, as the executor knows it.
-/
import Derived.Test.YtomodncooiddaaaDoorLr
import Derived.Test.YtomodncooiddaaaDoorLo
namespace Go.Proofs.YtomodncooiddaaaDoor.Sx.Z
open Go.RowKit
theorem fr_text {B : Nat} {ρ ρ' : Map} {w w1 w2 w' : World} {e f : Eff} (h : Fr B ρ ρ' w1 w2 e) (hnw : e.nw = []) (hk : ∀ id x, look e.st id = some x → x = .gone) (ha : Below w.heap.size w w1) (hb : Below w2.heap.size w2 w') (hf : f.st = e.st) (hfn : f.nw = []) : Fr B ρ ρ' w w' f := by
  have s1 := ha.size
  have s2 := h.below.size
  refine ⟨h.ext, fun id _ => h.only id (by rw [hnw]; rfl), (ha.mono (Nat.zero_le _)).trans (h.below.trans (hb.mono (Nat.zero_le _))), fun b hb1 hk1 => ?_, fun id x hx => ?_, fun id x hx => ?_, fun i j x y hx => ?_, fun b cs hc => ?_⟩
  · rw [hb.block b (by omega), h.keep b (by omega) (by rw [← hf]; exact hk1), ha.block b hb1]
  · rw [hf] at hx
    rw [hk id x hx]; trivial
  · rw [hfn] at hx; cases hx
  · rw [hfn] at hx; cases hx
  · rcases h.fz b cs hc with h1 | ⟨h1, ⟨T, z, h2⟩, _⟩
    · exact .inl h1
    · refine .inr ⟨?_, ⟨T, z, by rw [hb.block b (heap_lt h2)]; exact h2⟩, fun id x hx => by rw [hfn] at hx; cases hx⟩
      rw [hf]
      exact h1.imp (fun x => Nat.le_trans s1 x) id
theorem wh_below {w0 : W0} {w w' : World} {ρ : Map} {hp : Heap} (h : WH w0 ρ hp w) (hb : Below w.heap.size w w') : WH w0 ρ hp w' :=
  wh_step (e := { val := .junk, vc := [] }) h ⟨⟨fun _ _ h => h, fun _ _ => rfl, fun _ _ h => h, rfl, rfl⟩, fun _ _ => rfl, hb.mono (Nat.zero_le _), fun b hlt _ => hb.block b hlt, fun i x hx => (by cases hx), fun i x hx => (by cases hx), fun i j x y hx => (by cases hx), fun b cs hcs => .inl hcs⟩ (fun id x hx => (by cases hx)) (fun id x hx => (by cases hx))
theorem trel_str {f : Fz} {d : D} {v : Value} (h : TRel f .str d v) : v = .string d.toS := by cases h; rfl
/-- The text of words. -/
def txS (ch ru pr : D) : ByteArray := if wdE ch ru pr = 0 then ⟨(txB (wsL (wdA ch ru pr) (wdA ch ru pr).len)).toArray⟩ else ⟨#[]⟩
theorem wdA_len (ch ru pr : D) : (wdA ch ru pr).len ≤ 2000 := by
  unfold wdA
  split
  · rename_i h
    rcases Nat.lt_or_ge 2000 (wdD ch ru pr).len with h2 | h2
    · exfalso
      unfold wdE at h
      split at h
      · split at h
        · rw [if_pos (by omega)] at h; cases h
        · cases h
      · cases h
    · exact h2
  · exact Nat.zero_le _
noncomputable def txC : Con := fun hp _ args => match flP hp [lSy] args with
  | some ([.d ch, .d ru, .d pr], ps) => some { val := .tup [.sc (.raw (.string (txS ch ru pr))), .sc (.int .i64 (.sym (wdE ch ru pr)))], vc := ps ++ [SyOK ch ru pr, (syB ch ru pr = true → syN pr = true → SyF ch ru pr), ∀ i, i < (wdA ch ru pr).len → ((wdA ch ru pr).el i 0).toS.size ≤ 1000000000], st := kills (keepOwn hp (idsX hp args)) }
  | _ => none
theorem tx_ok : ConOK Tryd.prog 12 txC := by
  refine ⟨fun _ _ => by kernel_rfl, fun hp fr args e he hv w0 w ρ vs hw hfr ha => ?_, fun _ _ _ e h => nomatch (show (none : Option Eff) = some e from h)⟩
  unfold txC at he
  split at he
  · rename_i ch ru pr ps hds
    obtain rfl := Option.some.inj he
    obtain ⟨hp1, hp2⟩ := all_append.1 hv
    obtain ⟨q1, q2, q3, _⟩ := hp2
    obtain ⟨svs, h, ρ1, id, hun, _, _, hrel⟩ := unP_spec hw [lSy] args _ ps hds hp1 vs ha (ids := keepOwn hp (idsX hp args)) (fun i hi ho => keepOwn_mem.2 ⟨hi, ho⟩) 0
    obtain rfl : svs = _ := (congrArg Prod.fst (Option.some.inj hun)).symm
    match vs, hrel with
    | [x], ⟨hx, _⟩ =>
      obtain ⟨cs, rfl, hcs⟩ := hx
      obtain ⟨a, b, c, rfl⟩ : ∃ a b c, cs = #[a, b, c] := by
        rcases cs with ⟨l⟩
        have hl : 3 = l.length := hcs.1
        rcases l with _ | ⟨a, _ | ⟨b, _ | ⟨c, _ | ⟨d, l⟩⟩⟩⟩ <;> first | exact ⟨_, _, _, rfl⟩ | (simp at hl; done)
      have hal : Below w.heap.size w (w.alloc (.cells #[a, b, c] 47)) := (Below.refl _ _).alloc (Nat.le_refl _) _
      have hw1 := wh_below hw hal
      have hcall := wrd_ok.calls hp fr args { val := .tup [.sc (.rows 9 (wdA ch ru pr)), .sc (.int .i64 (.sym (wdE ch ru pr)))], vc := ps ++ [SyOK ch ru pr, (syB ch ru pr = true → syN pr = true → SyF ch ru pr)], st := kills (keepOwn hp (idsX hp args)) } (by unfold wrdC con; rw [hds]; rfl) (all_append.2 ⟨hp1, q1, q2, trivial⟩) w0 _ ρ [.agg #[a, b, c]] hw1 (fun _ _ h => by cases h) ha
      refine text_walk a b c w _ (hcall.mono ?_)
      rintro en w2 ⟨ρ2, v, rfl, ⟨vs2, rfl, hur⟩, hF⟩
      have hw2 := wh_step hw1 hF stOK_kills (fun _ _ h => by cases h)
      have hFr : ∀ w', Below w2.heap.size w2 w' → ∀ sv vc, Fr w0.heap.size ρ ρ2 w w' { val := sv, vc := vc, st := kills (keepOwn hp (idsX hp args)) } := fun w' hb sv vc => fr_text hF rfl (fun id x hx => (kills_look hx).1) hal hb rfl rfl
      obtain ⟨x1, x2, rfl, h1, h2⟩ : ∃ x1 x2, vs2 = #[x1, x2] ∧ TRel ρ2.fz (.slice 9) (wdA ch ru pr) x1 ∧ x2 = .int .i64 (wdE ch ru pr) := by
        rcases vs2 with ⟨l⟩
        rcases l with _ | ⟨x1, _ | ⟨x2, _ | ⟨x3, l⟩⟩⟩
        · exact hur.elim
        · exact hur.2.elim
        · exact ⟨x1, x2, rfl, hur.1, hur.2.1⟩
        · exact hur.2.2.elim
      subst h2
      obtain ⟨A, k, hx1, hcell⟩ : ∃ A k, x1 = .slice A (wdA ch ru pr).len k ∧ ∀ i, i < (wdA ch ru pr).len → ∃ p, A = some p ∧ w2.cell? (p.add i) = some (.string ((wdA ch ru pr).el i 0).toS) := by
        cases h1 with
        | nil _ _ h => exact ⟨none, 0, by rw [h], fun i hi => by omega⟩
        | empty _ _ a c h => exact ⟨some a, c, by rw [h], fun i hi => by omega⟩
        | slice _ _ b o c u hc hu hr =>
          refine ⟨some ⟨b, o, none⟩, c, rfl, fun i hi => ⟨_, rfl, ?_⟩⟩
          have e1 := hu i 0 hi (by decide)
          have e2 := hr i 0 .str hi rfl
          have e3 : u i 0 = .string ((wdA ch ru pr).el i 0).toS := trel_str e2
          rw [e3] at e1
          have e4 := Frozen.cell hw2.froz e1
          rw [show (eks 9).length = 1 from rfl, Nat.mul_one, Nat.add_zero] at e4
          have ea : (⟨b, o, none⟩ : Addr).add i = ⟨b, o + i, none⟩ := by
            by_cases h : i = 0
            · subst h; simp [Addr.add]
            · simp [Addr.add, h]
          rw [ea]; exact e4
      subst hx1
      have hL : (wsL (wdA ch ru pr) (wdA ch ru pr).len).length = (wdA ch ru pr).len := by unfold wsL; simp
      have hg : ∀ i (h : i < (wsL (wdA ch ru pr) (wdA ch ru pr).len).length), (wsL (wdA ch ru pr) (wdA ch ru pr).len)[i] = ((wdA ch ru pr).el i 0).toS := fun i h => by
        simp [wsL]
      refine ⟨A, (wdA ch ru pr).len, k, wdE ch ru pr, wsL (wdA ch ru pr) (wdA ch ru pr).len, rfl, hL, wdA_len _ _ _, fun i h => ?_, fun h0 w' hb => ?_, fun h0 w' hb => ?_⟩
      · rw [hg i h]
        exact ⟨q3 i (by omega), hcell i (by omega)⟩
      · refine ⟨ρ2, _, rfl, ⟨_, rfl, ?_, rfl, trivial⟩, hFr w' hb _ _⟩
        show Value.string _ = .string (txS ch ru pr)
        unfold txS
        rw [if_neg h0]
      · refine ⟨ρ2, _, rfl, ⟨_, rfl, ?_, ?_, trivial⟩, hFr w' hb _ _⟩
        · show Value.string _ = .string (txS ch ru pr)
          unfold txS
          rw [if_pos h0]
        · show Value.int .i64 0 = .int .i64 (wdE ch ru pr)
          rw [h0]
  · cases he
end Go.Proofs.YtomodncooiddaaaDoor.Sx.Z
