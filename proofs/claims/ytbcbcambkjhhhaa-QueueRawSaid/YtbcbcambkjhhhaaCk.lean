/-
  A law whose first argument's cells are told of, too.
-/
import Derived.Test.YtbcbcambkjhhhaaCj
import Derived.HandedShaped
namespace Go.Proofs.Ytbcbcambkjhhhaa.Sx
open Go.RowKit Go.WideShapes
section
variable {P : Program} {tt : TT} {H : Type} {enc : TypeId × Value → H} {w : World} {base : Nat} {spare : Nat → Bool} {held : Bool}
theorem val_in2 (htt : TTOK P tt) (hka : kAll tt = true) {T : TypeId} {v : Value} {dw : DataW H} {ps : List MemPlace} (h : DataW.Trod enc P w base spare held T v dw ps) {ks : List K} (hk : kT tt 9 T = some ks) {w1 : World} {r : Reach} {b0 : Nat} (hok : Value.okWide P w1 r b0 T v) :
    ∃ d : D, DatIn tt T d ∧ (∀ sv, inV tt T d = some sv → UR (Map.at0 (cellsAt w)) sv v) ∧ ∀ (j : Nat) k, ks[j]? = some k → ∃ u, v.cells.toList[j]? = some u ∧ TRel (cellsAt w) k (d.el 0 j) u := by
  obtain ⟨fuel, hf⟩ := h
  obtain ⟨h1, h2⟩ := in_cells htt hka fuel 9 T ks _ _ hk hf
  have each : ∀ j : Nat, ∃ d : D, ∀ k, ks[j]? = some k → ∃ u, v.cells.toList[j]? = some u ∧ TRel (cellsAt w) k d u ∧ DOk k d := fun j => by
    cases hj : ks[j]? with
    | none => exact ⟨.i 0, fun k hk' => by cases hk'⟩
    | some k =>
      obtain ⟨u, d, g1, g2, g3⟩ := h2 j k hj
      exact ⟨d, fun k' hk' => by cases hk'; exact ⟨u, g1, g2, g3⟩⟩
  obtain ⟨F, hF⟩ := Classical.skolem.1 each
  have hde : ∀ j, j < ks.length → (D.l [(List.range ks.length).map F]).el 0 j = F j := fun j hj => by
    show ((List.range ks.length).map F).getD j (.i 0) = F j
    rw [List.getD_eq_getElem?_getD, List.getElem?_map, List.getElem?_range hj]
    rfl
  have hE : ∀ (j : Nat) k, ks[j]? = some k → ∃ u, v.cells.toList[j]? = some u ∧ TRel (cellsAt w) k ((D.l [(List.range ks.length).map F]).el 0 j) u := fun j k hj => by
    obtain ⟨u, g1, g2, _⟩ := hF j k hj
    rw [hde j (lt_of_get hj)]
    exact ⟨u, g1, g2⟩
  refine ⟨.l [(List.range ks.length).map F], ?_, fun sv hs => ?_, hE⟩
  · intro ks' hks j k hj
    rw [hk] at hks
    cases hks
    obtain ⟨u, _, _, g3⟩ := hF j k hj
    rw [hde j (lt_of_get hj)]
    exact g3
  · have hE : ∀ (j : Nat) k, ks[j]? = some k → ∃ u, v.cells.toList[j]? = some u ∧ TRel (Map.at0 (cellsAt w)).fz k ((D.l [(List.range ks.length).map F]).el 0 j) u := hE
    unfold inV at hs
    rw [hk] at hs
    split at hs
    · rename_i k hks hsh
      obtain rfl := by simpa using hks
      obtain ⟨dd, hd, hda⟩ := shapeOf_none (tt_shape htt hsh)
      have hc := not_agg hd hda hok
      split at hs
      · rename_i c hcc
        obtain rfl := by simpa using hs
        obtain ⟨u, g1, g2⟩ := hE 0 k rfl
        rw [hc] at g1
        obtain rfl : v = u := by simpa using g1
        exact cellSC_spec hcc g2
      · cases hs
    · rename_i ks' L hks hsh
      obtain rfl := by simpa using hks
      obtain ⟨dd, i, hd, hda, _, _⟩ := shapeOf_some (tt_shape htt hsh)
      obtain ⟨cs, rfl⟩ := is_agg hd hda hok
      split at hs
      · rename_i hsz
        split at hs
        · rename_i s hss
          obtain rfl := by simpa using hs
          obtain ⟨e1, e2⟩ := elSegs_val hE L 0 s hss
          refine ⟨cs, rfl, ?_, fun i x u hx hu => ?_⟩
          · rw [e1, Nat.eq_of_beq_eq_true hsz, ← h1]; rfl
          · obtain ⟨u', g1, g2⟩ := e2 i x hx
            rw [Nat.zero_add] at g1
            have : u = u' := by
              have h3 : cs.toList[i]? = some u' := g1
              rw [hu] at h3
              exact Option.some.inj h3
            rw [this]; exact g2
        · cases hs
      · cases hs
    · cases hs
theorem law_in2 (htt : TTOK P tt) (hka : kAll tt = true) {f : FuncId} {c : Con} (hc : ConOK P f c) {T : TypeId} {Ts : List TypeId} {params : Array TypeId} {args : Array Value} {v0 : Value} {vs0 : List Value} {d0 : DataW H} {ds0 : List (DataW H)} {p0 q0 : List MemPlace} (hp : params.toList = T :: Ts) (ha : args.toList = v0 :: vs0)
    (h0 : DataW.Trod enc P w base spare held T v0 d0 p0) (h1 : DataW.TrodAll enc P w base spare held Ts vs0 ds0 q0) {ks : List K} (hk : kT tt 9 T = some ks)
    {w1 : World} {r : Reach} {b0 : Nat} (hok : ∀ (j : Nat) t v, params[j]? = some t → args[j]? = some v → Value.okWide P w1 r b0 t v) (hl : ∀ d Ds, DsOk tt (T :: Ts) (d :: Ds) → (∀ (j : Nat) k, ks[j]? = some k → ∃ u, v0.cells.toList[j]? = some u ∧ TRel (cellsAt w) k (d.el 0 j) u) → lawOb tt c (T :: Ts) (d :: Ds)) :
    Calls P f args w fun e w' => e = .returned (.bool true) ∧ Below w.heap.size w w' := by
  have ok : ∀ (j : Nat) t v, (T :: Ts)[j]? = some t → (v0 :: vs0)[j]? = some v → Value.okWide P w1 r b0 t v := fun j t v ht hv => hok j t v (by rw [← Array.getElem?_toList, hp]; exact ht) (by rw [← Array.getElem?_toList, ha]; exact hv)
  obtain ⟨d, a1, a2, a3⟩ := val_in2 htt hka h0 hk (ok 0 T v0 rfl rfl)
  obtain ⟨D0, b1, b2⟩ := args_in htt hka Ts vs0 ds0 q0 h1 (fun j t v ht hv => ok (j + 1) t v (by simpa using ht) (by simpa using hv))
  have h3 := hl d D0 ⟨a1, b1⟩ a3
  have h2 : ∀ svs, inVs tt (T :: Ts) (d :: D0) = some svs → ArgsRel (Map.at0 (cellsAt w)) svs args.toList := fun svs hs => by
    rw [ha]
    simp only [inVs] at hs
    split at hs
    · rename_i x r hx hr
      obtain rfl := by simpa using hs
      exact ⟨a2 _ hx, b2 _ hr⟩
    · cases hs
  unfold lawOb at h3
  split at h3
  · rename_i svs hs
    split at h3
    · rename_i e he
      split at h3
      · rename_i b hv hst
        have := hc.calls [] 0 svs e he h3.2 _ w _ args.toList (wh_nil w) (fun _ _ _ => rfl) (h2 svs hs)
        rw [Array.toArray_toList] at this
        refine this.mono ?_
        rintro en w' ⟨ρ', v, rfl, g1, g2⟩
        refine ⟨?_, g2.below.1, g2.below.2, g2.below.3, g2.below.size, fun k hk => g2.keep k hk fun _ _ h => by rw [hst] at h; simp [look] at h⟩
        rw [hv] at g1
        have : v = .bool b.v := g1
        rw [this, h3.1]
      · exact h3.elim
    · exact h3.elim
  · exact h3.elim
end
/-- A row's length, off the value that it is. -/
theorem len_of {fz : Fz} {e : TypeId} {d : D} {a : Option Addr} {n c : Nat} (h : TRel fz (.slice e) d (.slice a n c)) : d.len = n := by
  generalize hk : K.slice e = k at h
  generalize hv : Value.slice a n c = v at h
  cases h with
  | int k d => cases hk
  | bool d => cases hk
  | str d => cases hk
  | nil e d h0 => cases hv; exact h0
  | empty e d a c h0 => cases hv; exact h0
  | slice e d b o c u _ _ _ => cases hv; rfl
end Go.Proofs.Ytbcbcambkjhhhaa.Sx
