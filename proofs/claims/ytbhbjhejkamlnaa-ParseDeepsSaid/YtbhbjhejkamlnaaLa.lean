/-
  lex.Lex, as the executor knows it.
-/
import Derived.Test.YtbhbjhejkamlnaaLex
import Derived.Test.YtbhbjhejkamlnaaSxV
import Derived.Test.YtbhbjhejkamlnaaTt
namespace Go.Proofs.Ytbhbjhejkamlnaa.Sx.Z
open Go.RowKit
def tokR (t : Tok) : List D := [.i t.kind, .s t.text, .i t.num, .i (t.pos : Nat)]
def tokD (l : List Tok) : D := .l (l.map tokR)
theorem tokD_len (l : List Tok) : (tokD l).len = l.length := List.length_map ..
def tokV (t : Tok) : List Value := [.int .i64 t.kind, .string t.text, .int .i64 t.num, .int .i64 (t.pos : Nat)]
theorem tcells_get : ∀ {l : List Tok} {i j : Nat} {t : Tok}, l[i]? = some t → j < 4 → (tcells l)[i * 4 + j]? = (tokV t)[j]?
  | [], i, j, t, h, _ => by simp at h
  | a :: l, 0, j, t, h, hj => by
    obtain rfl : a = t := by simpa using h
    show (tokV a ++ tcells l)[0 * 4 + j]? = _
    rw [Nat.zero_mul, Nat.zero_add, List.getElem?_append_left (by show j < 4; exact hj)]
  | a :: l, i + 1, j, t, h, hj => by
    have ih := tcells_get (l := l) (i := i) (j := j) (t := t) (by simpa using h) hj
    show (tokV a ++ tcells l)[(i + 1) * 4 + j]? = _
    rw [List.getElem?_append_right (by show 4 ≤ _; omega)]
    rw [← ih]
    congr 1
    show (i + 1) * 4 + j - 4 = i * 4 + j
    omega
theorem tok_eks : eks 115 = [.int .i64, .str, .int .i64, .int .i64] := by rfl
theorem tokD_el {l : List Tok} {i : Nat} {t : Tok} (h : l[i]? = some t) (j : Nat) : (tokD l).el i j = (tokR t).getD j (.i 0) := by
  unfold D.el
  have : (tokD l).rows.getD i [] = tokR t := by
    show (l.map tokR).getD i [] = _
    rw [List.getD_eq_getElem?_getD, List.getElem?_map, h]; rfl
  rw [this]
def lexS : FSpec := fun ds _ => match ds with
  | [.s s] => some { val := .tup [.sc (.rows 115 (tokD (lexR s).1)), .sc (.int .i64 (.sym ((lexR s).2.1 : Nat))), .sc (.int .i64 (.sym (lexR s).2.2))], vc := [s.size ≤ 140737488351232] }
  | _ => none
def lexC : Con := con [.sc .str] lexS
theorem lex_rel {fz : Fz} {l : List Tok} {A : Option Addr} {c : Nat} {base : Nat} {w : World} (h : w.ownsRow base 115 4 (.slice A l.length c) l.length (tcells l)) (hf : ∀ g cur, base ≤ g → w.heap[g]? = some (.cells cur 115 (0, 0)) → A = some ⟨g, 0, none⟩ → fz g = some cur) : TRel fz (.slice 115) (tokD l) (.slice A l.length c) := by
  rcases h.2 with ⟨hv, h0⟩ | ⟨g, cap, cur, hv, hg, hh, h1, h2, h3, h4⟩
  · rw [hv]
    exact .nil _ _ (by rw [tokD_len]; exact h0)
  · obtain ⟨hA, _, hc⟩ := Value.slice.inj hv
    subst hA hc
    by_cases h0 : l.length = 0
    · rw [h0]
      exact .empty _ _ _ _ (by rw [tokD_len]; exact h0)
    · have hF := hf g cur hg hh rfl
      have hat : ∀ i j t, l[i]? = some t → j < 4 → cur[i * 4 + j]? = (tokV t)[j]? := fun i j t ht hj => by
        have e := tcells_get ht hj
        rw [← h4] at e
        have hi : i < l.length := lt_of_get ht
        rw [List.getElem?_take_of_lt (by omega), Array.getElem?_toList] at e
        exact e
      rw [show Value.slice (some ⟨g, 0, none⟩) l.length c = Value.slice (some ⟨g, 0, none⟩) (tokD l).len c by rw [tokD_len]]
      refine .slice _ _ _ _ _ (fun i j => (cur[i * 4 + j]?).getD undef) (by rw [tokD_len]; exact h1) (fun i j hi hj => ?_) (fun i j k hi hk => ?_)
      · rw [tokD_len] at hi
        have hj4 : j < 4 := hj
        have e := hat i j _ (List.getElem?_eq_getElem hi) hj4
        have e2 : (tokV l[i])[j]? = some (tokV l[i])[j] := List.getElem?_eq_getElem (by show j < 4; exact hj4)
        rw [e2] at e
        show Fz.cell fz g (0 + i * 4 + j) = _
        rw [Nat.zero_add, e]
        unfold Fz.cell
        rw [hF]
        exact e
      · rw [tokD_len] at hi
        have ht := List.getElem?_eq_getElem hi
        rw [tokD_el ht]
        rw [tok_eks] at hk
        match j, hk with
        | 0, hk => obtain rfl := Option.some.inj hk; rw [hat i 0 _ ht (by omega)]; exact .int _ (.i _)
        | 1, hk => obtain rfl := Option.some.inj hk; rw [hat i 1 _ ht (by omega)]; exact .str (.s _)
        | 2, hk => obtain rfl := Option.some.inj hk; rw [hat i 2 _ ht (by omega)]; exact .int _ (.i _)
        | 3, hk => obtain rfl := Option.some.inj hk; rw [hat i 3 _ ht (by omega)]; exact .int _ (.i _)
        | j + 4, hk => simp at hk
def lexF (f : Fz) (w w' : World) (A : Option Addr) : Fz := fun b => match A with | some a => if b = a.block ∧ w.heap.size ≤ b then cellsAt w' b else f b | none => f b
theorem lexF_or {f : Fz} {w w' : World} {A : Option Addr} {b : Nat} {cs : Array Value} (h : lexF f w w' A b = some cs) : f b = some cs ∨ (w.heap.size ≤ b ∧ cellsAt w' b = some cs) := by
  unfold lexF at h
  split at h
  · split at h
    · rename_i hh; exact .inr ⟨hh.2, h⟩
    · exact .inl h
  · exact .inl h
theorem lex_ok : ConOK Try.prog 13 lexC := by
  refine ⟨fun _ _ => by kernel_rfl, fun hp fr args e he hv w0 w ρ vs hw _ ha => ?_, fun _ _ _ _ h => nomatch (con_jf _ _ _ _ _).symm.trans h⟩
  unfold lexC con at he
  split at he
  · rename_i ds ps hds
    split at he
    · rename_i e1 he1
      unfold lexS at he1
      split at he1
      · rename_i s
        obtain rfl := Option.some.inj he1
        obtain rfl := Option.some.inj he
        obtain ⟨hp1, hp2⟩ := all_append.1 hv
        obtain ⟨svs, h, ρ1, id, hun, _, _, hrel⟩ := unP_spec hw [.sc .str] args _ ps hds hp1 vs ha (ids := keepOwn hp (idsX hp args)) (fun i hi ho => keepOwn_mem.2 ⟨hi, ho⟩) 0
        obtain rfl : svs = _ := (congrArg Prod.fst (Option.some.inj hun)).symm
        match vs, hrel with
        | [x], ⟨hx, _⟩ =>
          have hx : x = .string s := hx
          subst hx
          refine (lex_any s w hp2.1).mono ?_
          rintro en w' ⟨A, c, rfl, hown, hb⟩
          have hle : FzLe ρ.fz (lexF ρ.fz w w' A) := fun b cs hbc => by
            unfold lexF
            split
            · split
              · rename_i hh
                rw [hw.froz.new hh.2] at hbc; cases hbc
              · exact hbc
            · exact hbc
          have hrel2 : TRel (lexF ρ.fz w w' A) (.slice 115) (tokD (lexR s).1) (.slice A (lexR s).1.length c) := lex_rel hown fun g cur hg hh hA => by
            subst hA
            show (if g = g ∧ w.heap.size ≤ g then cellsAt w' g else ρ.fz g) = some cur
            rw [if_pos ⟨rfl, hg⟩]
            unfold cellsAt
            rw [hh]
          refine ⟨{ ρ with fz := lexF ρ.fz w w' A }, _, rfl, ⟨_, rfl, hrel2, rfl, rfl, trivial⟩, ⟨⟨fun _ _ h => h, fun _ _ => rfl, hle, rfl, rfl⟩, fun _ _ => rfl, hb.mono (Nat.zero_le _), fun b hlt _ => hb.block b hlt, fun i x hx => ?_, fun i x hx => ?_, fun i j x y hx => ?_, fun b cs hcs => ?_⟩⟩
          · have hx' : look (kills (keepOwn hp (idsX hp args))) i = some x := hx
            rw [(kills_look hx').1]; trivial
          · cases hx
          · cases hx
          · rcases lexF_or hcs with h1 | ⟨h1, h2⟩
            · exact .inl h1
            · exact .inr ⟨.inl h1, cellsAt_some h2, fun _ _ h => by cases h⟩
      · cases he1
    · cases he
  · cases he
end Go.Proofs.Ytbhbjhejkamlnaa.Sx.Z
