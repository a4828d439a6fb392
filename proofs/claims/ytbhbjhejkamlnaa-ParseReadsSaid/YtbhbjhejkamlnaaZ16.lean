import Derived.Laws.OwnMore
import Derived.Test.YtbhbjhejkamlnaaZ15
import Derived.Test.YtbhbjhejkamlnaaZ14
namespace Go.Proofs.Ytbhbjhejkamlnaa
open Go.RowKit
def tcells (ts : List Tok) : List Value := ts.flatMap fun t => [.int .i64 t.kind, .string t.text, .int .i64 t.num, .int .i64 t.pos]
theorem tcells_snoc (ts : List Tok) (t : Tok) : tcells (ts ++ [t]) = tcells ts ++ [.int .i64 t.kind, .string t.text, .int .i64 t.num, .int .i64 t.pos] := by simp [tcells]
theorem own_below {B base : Nat} {e : TypeId} {size n : Nat} {v : Value} {xs : List Value} {w w' : World} (h : w.ownsRow base e size v n xs) (hb : Below B w w') (hB : ∀ g, v.ownBlock = some g -> g < B) : w'.ownsRow base e size v n xs := by
  refine ⟨h.1, ?_⟩
  rcases h.2 with h0 | ⟨g, cap, cur, rfl, hg, hh, h1⟩
  · exact .inl h0
  · exact .inr ⟨g, cap, cur, rfl, hg, (hb.block g (hB g rfl)).trans hh, h1⟩
theorem own_later {base : Nat} {e : TypeId} {size n : Nat} {v : Value} {xs : List Value} {w w' : World} (h : w.ownsRow base e size v n xs) (hb : Below w.heap.size w w') : w'.ownsRow base e size v n xs :=
  own_below h hb fun g hg => (h.lt g hg).2
theorem below_new {B : Nat} {a w : World} (h : Below B a w) (hB : B <= a.heap.size) (o : Obj) : Below B a (w.alloc o) := h.alloc (Nat.le_trans hB h.size) o
theorem own_form {base : Nat} {e : TypeId} {size n : Nat} {v : Value} {xs : List Value} {w : World} (h : w.ownsRow base e size v n xs) (hn : 0 < n) : ∃ g cap, v = .slice (some ⟨g, 0, none⟩) n cap := by
  rcases h.2 with ⟨_, h0⟩ | ⟨g, cap, _, hv, _⟩
  · omega
  · exact ⟨g, cap, hv⟩
theorem cells_new (w : World) (t : TypeId) (l : List Value) : ∀ j u, l[j]? = some u -> (w.alloc (.cells l.toArray t)).cell? ((⟨w.heap.size, 0, none⟩ : Addr).add j) = some u := by
  intro j u hu
  have h := cell_of_row (w.alloc (.cells l.toArray t)) w.heap.size j l.toArray t (0, 0) (heap_alloc_new w _)
  rw [show (⟨w.heap.size, 0, none⟩ : Addr).add j = ⟨w.heap.size, j, none⟩ from by unfold Addr.add; split <;> simp_all, h]
  simpa using hu
theorem tk_few {acc : List Tok} {t : Tok} (h : (acc.take 2001).length <= 2000) : acc.take 2001 = acc /\ (acc ++ [t]).take 2001 = acc ++ [t] := by
  rw [List.length_take] at h
  exact ⟨List.take_of_length_le (by omega), List.take_of_length_le (by rw [List.length_append]; simp; omega)⟩
theorem tk_many {acc : List Tok} {t : Tok} (h : ¬ (acc.take 2001).length <= 2000) : (acc ++ [t]).take 2001 = acc.take 2001 := by
  rw [List.length_take] at h
  exact List.take_append_of_le_length (by omega)
def LexPost (s : ByteArray) (w : World) (e : Ending) (w' : World) : Prop :=
  ∃ A c, e = .returned (.tuple #[.slice A (lexR s).1.length c, .int .i64 ((lexR s).2.1 : Nat), .int .i64 (lexR s).2.2]) /\
    w'.ownsRow w.heap.size 115 4 (.slice A (lexR s).1.length c) (lexR s).1.length (tcells (lexR s).1) /\ Below w.heap.size w w'
theorem info_tok : (Try.prog.info? 115).map (fun i => (i.zero, i.size, i.bytes)) = some (some (.agg #[.int .i64 0, .string ⟨#[]⟩, .int .i64 0, .int .i64 0]), 4, 40) := by kernel_rfl
theorem lexR_err {s : ByteArray} {R : Except (Nat × Int) (List Tok)} (h : lexGo s s.size 0 [] = R) {p : Nat} {x : Int} (hR : R = .error (p, x)) : lexR s = ([], p, x) := by unfold lexR; rw [h, hR]
theorem lexR_long {s : ByteArray} {R : Except (Nat × Int) (List Tok)} (h : lexGo s s.size 0 [] = R) {acc : List Tok} (hR : R = .ok acc) (hl : 2000 < acc.length) : lexR s = ([], s.size, 4) := by unfold lexR; rw [h, hR]; simp [hl]
theorem lexR_ok {s : ByteArray} {R : Except (Nat × Int) (List Tok)} (h : lexGo s s.size 0 [] = R) {acc : List Tok} (hR : R = .ok acc) (hl : acc.length <= 2000) : lexR s = (acc, 0, 0) := by unfold lexR; rw [h, hR]; simp; omega
theorem LexPost.bad {s : ByteArray} {w w' : World} {p : Nat} {x : Int} (h : lexR s = ([], p, x)) (hb : Below w.heap.size w w') : LexPost s w (.returned (.tuple #[.slice none 0 0, .int .i64 p, .int .i64 x])) w' := by
  unfold LexPost
  rw [h]
  exact ⟨none, 0, rfl, World.ownsRow_nil _ _ _ _, hb⟩
theorem LexPost.good {s : ByteArray} {w w' : World} {A : Option Addr} {n c : Nat} {acc : List Tok} (h : lexR s = (acc, 0, 0)) (hn : n = acc.length) (ho : w'.ownsRow w.heap.size 115 4 (.slice A n c) n (tcells acc)) (hb : Below w.heap.size w w') :
    LexPost s w (.returned (.tuple #[.slice A n c, .int .i64 0, .int .i64 0])) w' := by
  unfold LexPost
  rw [h]
  subst hn
  exact ⟨A, c, rfl, ho, hb⟩
set_option maxRecDepth 100000 in
set_option maxHeartbeats 4000000 in
theorem lex_any (s : ByteArray) (w : World) (hs : s.size <= 140737488351232) :
    Calls Try.prog 13 #[.string s] w fun e w' => LexPost s w e w' := by
  have hs' : s.size <= maxLen := by unfold maxLen; omega
  obtain ⟨i0, hi, hz0, hz1, hz2⟩ := info_parts info_tok
  obtain ⟨R, hR⟩ : ∃ R, lexGo s s.size 0 [] = R := ⟨_, rfl⟩
  have HR := Lib.hid hR
  go_enter Try.func13, Try.ntmps13
  go_wp2_with fail
  go_loopw [5, 6] (fun v i wr => ∃ (p f : Nat) (acc : List Tok) (A : Option Addr) (n c : Nat), p <= s.size /\ s.size <= p + f /\ lexGo s f p acc = R /\ n = (acc.take 2001).length /\ i = .int .i64 p /\ v = .slice A n c /\
      wr.ownsRow w.heap.size 115 4 (.slice A n c) n (tcells (acc.take 2001)) /\ Below w.heap.size w wr)
    (fun _ i _ => s.size - (intOf i).toNat)
  case atStart => exact ⟨0, s.size, [], none, 0, 0, by omega, by omega, hR, rfl, rfl, rfl, World.ownsRow_nil _ _ _ _, Below.refl _ _⟩
  case round =>
    obtain ⟨p, f, acc, A, n, c, hp, hf, hgo, hn, rfl, rfl, hown, hbw⟩ := hrel
    clear hR
    have Hn := Lib.hid hn
    have hn1 : n <= 2001 := by rw [hn, List.length_take]; omega
    clear hn
    have Hgo := Lib.hid hgo
    clear hgo
    by_cases hlt : p < s.size
    · have hgd := getD_eq s p hlt
      rcases Bool.eq_false_or_eq_true (gapB (s[p].toNat : Int)) with hg | hg
      · have Hst := Lib.hid (go_gap hlt (by rw [hgd]; exact hg) hf Hgo.out)
        clear hgd
        go_wp2_with (first | (go_at_call 34; refine (gap_any _ _).mono ?_; rintro e w' ⟨rfl, rfl⟩) | fail)
        go_roundw
        case rel =>
          obtain ⟨f', hf', hgo'⟩ := Hst.out
          exact ⟨p + 1, f', acc, A, n, c, by omega, hf', hgo', Hn.out, by go_num, rfl, hown, hbw⟩
        case measure => simp [intOf]; omega
      · have hgU : gapU (s.data.toList.getD p 0) = false := by rw [hgd]; exact hg
        rcases hE : wordE (s.data.toList.drop p) with x | ⟨k, m, num⟩
        · have Hfin := Lib.hid (lexR_err HR.out (go_err hlt hgU hE hf Hgo.out))
          have HE := Lib.hid hE
          have hx0 : (x != 0) = true := by rw [bne_iff_ne]; have := wordE_err hE; omega
          clear hE hgd hgU
          go_wp2_with (first | (go_at_call 34; refine (gap_any _ _).mono ?_; rintro e w' ⟨rfl, rfl⟩) | fail)
          refine (wordAt_err s p _ hs' hlt HE.out).mono ?_
          rintro e w1 ⟨rfl, hb⟩
          go_wp2_with fail
          go_ret3
          exact LexPost.bad Hfin.out ((hbw.trans (hb.mono hbw.size)).alloc (by have := hb.size; have := hbw.size; omega) _)
        · have hlen : (s.data.toList.drop p).length = s.size - p := by simp
          obtain ⟨hm1, hm2, hnum1, hnum2, hk1, hk2⟩ := wordE_ok (by rw [hlen]; omega) hE
          rw [hlen] at hm2
          have Hst := Lib.hid (go_word hlt hgU hE hf hm1 Hgo.out)
          have HE := Lib.hid hE
          obtain ⟨T, hT⟩ : ∃ T, s.extract p (p + m) = T := ⟨_, rfl⟩
          have hTs : T.size = m := by rw [← hT]; simp; omega
          have HT := Lib.hid hT
          clear hE hgd hgU hlen hT
          by_cases hn2 : n <= 2000
          · go_wp2_with (first | (go_at_call 34; refine (gap_any _ _).mono ?_; rintro e w' ⟨rfl, rfl⟩) | fail)
            refine (wordAt_ok s p _ hs' hlt HT.out HE.out).mono ?_
            rintro e w1 ⟨rfl, hb⟩
            go_wp2_with fail
            refine (clone_any T _ (by omega)).mono ?_
            rintro e w2 ⟨rfl, hb2⟩
            obtain ⟨hc, hfz⟩ := bcell hb2
            have hz : w1.heap.size < w2.heap.size := by have := hb2.size; simp at this; omega
            have hB1 : Below wr.heap.size wr w2 := (hb.alloc hb.size _).trans (hb2.mono (by have := hb.size; simp; omega))
            go_wp2_with (at_builtin; go_loud (refine wpList_append_own _ rfl (.tmp 41) (.tmp 43) _ rfl w.heap.size 115 i0 _ 4 40 Try.underlying60 hi hz0 hz1 hz2 rfl (by decide) (.slice A n c) n _ rfl (own_later hown (below_new (hB1.setCell hb.size _) (Nat.le_refl _) _)) ⟨w2.heap.size, 0, none⟩ 1 1 [.int .i64 k, .string T, .int .i64 num, .int .i64 p] rfl rfl ?c1 ?c2 ?c3 ?c4 ?c5 ?_))
            case c1 =>
              have e : w2.heap.size = (w2.setCell ⟨w1.heap.size, 1, none⟩ (.string T)).heap.size := by simp
              rw [e]
              exact cells_new _ _ _
            case c2 =>
              intro u hu
              simp at hu
              rcases hu with rfl | rfl | rfl | rfl <;> rfl
            case c3 => unfold maxLen; omega
            case c4 => omega
            case c5 => have := hB1.size; have := hbw.size; simp; omega
            intro v' w3 hown' hgrow _
            obtain ⟨g, cap, hv⟩ := own_form hown' (by omega)
            obtain ⟨ht1, ht2⟩ := tk_few (t := ⟨k, T, num, p⟩) (by rw [← Hn.out]; exact hn2)
            have Hv := Lib.hid hv
            have Ht := Lib.hid ht2
            have Hl : Hid (n + 1 = ((acc ++ [(⟨k, T, num, p⟩ : Tok)]).take 2001).length) := by
              show n + 1 = _
              rw [ht2, List.length_append, ← ht1, ← Hn.out]
              rfl
            have hown2 : w3.ownsRow w.heap.size 115 4 (.slice (some ⟨g, 0, none⟩) (n + 1) cap) (n + 1) (tcells ((acc ++ [(⟨k, T, num, p⟩ : Tok)]).take 2001)) := by
              rw [ht2, tcells_snoc, ← hv, ← ht1]
              exact hown'
            have hB3 : Below w.heap.size w w3 := (hbw.trans ((below_new (hB1.setCell hb.size _) (Nat.le_refl _) _).mono hbw.size)).grown hgrow (by have := hB1.size; have := hbw.size; simp; omega) (fun b hb => (hown.lt b hb).1)
            clear hv ht1 ht2 hown' hgrow hown hc hfz
            go_wp2_with fail
            go_roundw
            case rel =>
              obtain ⟨f', hf', hgo'⟩ := Hst.out
              exact ⟨p + m, f', acc ++ [(⟨k, T, num, p⟩ : Tok)], some ⟨g, 0, none⟩, n + 1, cap, by omega, hf', by rw [← HT.out]; exact hgo', Hl, by go_num, Hv.out, hown2, hB3⟩
            case measure => simp [intOf]; omega
          · have Ht := Lib.hid (tk_many (t := ⟨k, s.extract p (p + m), num, p⟩) (show ¬ (acc.take 2001).length <= 2000 by rw [← Hn.out]; exact hn2))
            go_wp2_with (first | (go_at_call 34; refine (gap_any _ _).mono ?_; rintro e w' ⟨rfl, rfl⟩) | fail)
            refine (wordAt_ok s p _ hs' hlt HT.out HE.out).mono ?_
            rintro e w1 ⟨rfl, hb⟩
            have hB3 : Below w.heap.size w (w1.alloc (.cells #[.int .i64 k, .string T, .int .i64 num, .int .i64 p] 115)) := below_new (hbw.trans (hb.mono hbw.size)) (Nat.le_refl _) _
            have hown3 := own_later hown (below_new hb (Nat.le_refl _) (.cells #[.int .i64 k, .string T, .int .i64 num, .int .i64 p] 115))
            clear hown
            go_wp2_with fail
            go_roundw
            case rel =>
              obtain ⟨f', hf', hgo'⟩ := Hst.out
              exact ⟨p + m, f', acc ++ [(⟨k, s.extract p (p + m), num, p⟩ : Tok)], A, n, c, by omega, hf', hgo', by rw [Ht.out]; exact Hn.out, by go_num, rfl, by rw [Ht.out]; exact hown3, hB3⟩
            case measure => simp [intOf]; omega
    · have hend := go_end (by omega) Hgo.out
      by_cases hn2 : n <= 2000
      · obtain ⟨ht1, -⟩ := tk_few (t := ⟨0, ⟨#[]⟩, 0, 0⟩) (show (acc.take 2001).length <= 2000 by rw [← Hn.out]; exact hn2)
        have hn3 : n = acc.length := by rw [Hn.out, ht1]
        have Hfin := Lib.hid (lexR_ok HR.out hend (by omega))
        rw [ht1] at hown
        have Hn3 := Lib.hid hn3
        clear ht1 hend hn3
        go_wp2_with fail
        go_ret3
        exact LexPost.good Hfin.out Hn3.out hown hbw
      · have hl : 2000 < acc.length := by
          have h1 := Hn.out
          rw [List.length_take] at h1
          omega
        have Hfin := Lib.hid (lexR_long HR.out hend hl)
        clear hend hl
        go_wp2_with fail
        go_ret3
        exact LexPost.bad Hfin.out hbw
end Go.Proofs.Ytbhbjhejkamlnaa
namespace Go.Proofs.Ytbhbjhejkamlnaa.Sx.Z
open Go.RowKit
def tokR (t : Tok) : List D := [.i t.kind, .s t.text, .i t.num, .i (t.pos : Nat)]
def tokD (l : List Tok) : D := .l (l.map tokR)
theorem tokD_len (l : List Tok) : (tokD l).len = l.length := List.length_map ..
def tokV (t : Tok) : List Value := [.int .i64 t.kind, .string t.text, .int .i64 t.num, .int .i64 (t.pos : Nat)]
theorem tcells_get : ∀ {l : List Tok} {i j : Nat} {t : Tok}, l[i]? = some t -> j < 4 -> (tcells l)[i * 4 + j]? = (tokV t)[j]?
  | [], i, j, t, h, _ => by simp at h
  | a :: l, 0, j, t, h, hj => by
    obtain rfl : a = t := by simpa using h
    show (tokV a ++ tcells l)[0 * 4 + j]? = _
    rw [Nat.zero_mul, Nat.zero_add, List.getElem?_append_left (by show j < 4; exact hj)]
  | a :: l, i + 1, j, t, h, hj => by
    have ih := tcells_get (l := l) (i := i) (j := j) (t := t) (by simpa using h) hj
    show (tokV a ++ tcells l)[(i + 1) * 4 + j]? = _
    rw [List.getElem?_append_right (by show 4 <= _; omega)]
    rw [← ih]
    congr 1
    show (i + 1) * 4 + j - 4 = i * 4 + j
    omega
theorem tok_eks : eks 115 = [.int .i64, .str, .int .i64, .int .i64] := by rfl
theorem tokD_el {l : List Tok} {i : Nat} {t : Tok} (h : l[i]? = some t) (j : Nat) : (tokD l).el i j = (tokR t).getD j (.i 0) := by
  unfold D.el
  have : (tokD l).rows.getD i [] = tokR t := by
    show (l.map tokR).getD i [] = _
    rw [List.getD_eq_getElem?_getD, List.getElem?_map, h]; rfl
  rw [this]
def lexS : FSpec := fun ds _ => match ds with
  | [.s s] => some { val := .tup [.sc (.rows 115 (tokD (lexR s).1)), .sc (.int .i64 (.sym ((lexR s).2.1 : Nat))), .sc (.int .i64 (.sym (lexR s).2.2))], vc := [s.size <= 140737488351232] }
  | _ => none
def lexC : Con := con [.sc .str] lexS
theorem lex_rel {fz : Fz} {l : List Tok} {A : Option Addr} {c : Nat} {base : Nat} {w : World} (h : w.ownsRow base 115 4 (.slice A l.length c) l.length (tcells l)) (hf : ∀ g cur, base <= g -> w.heap[g]? = some (.cells cur 115 (0, 0)) -> A = some ⟨g, 0, none⟩ -> fz g = some cur) : TRel fz (.slice 115) (tokD l) (.slice A l.length c) := by
  rcases h.2 with ⟨hv, h0⟩ | ⟨g, cap, cur, hv, hg, hh, h1, h2, h3, h4⟩
  · rw [hv]
    exact .nil _ _ (by rw [tokD_len]; exact h0)
  · obtain ⟨hA, _, hc⟩ := Value.slice.inj hv
    subst hA hc
    by_cases h0 : l.length = 0
    · rw [h0]
      exact .empty _ _ _ _ (by rw [tokD_len]; exact h0)
    · have hF := hf g cur hg hh rfl
      have hat : ∀ i j t, l[i]? = some t -> j < 4 -> cur[i * 4 + j]? = (tokV t)[j]? := fun i j t ht hj => by
        have e := tcells_get ht hj
        rw [← h4] at e
        have hi : i < l.length := lt_of_get ht
        rw [List.getElem?_take_of_lt (by omega), Array.getElem?_toList] at e
        exact e
      rw [show Value.slice (some ⟨g, 0, none⟩) l.length c = Value.slice (some ⟨g, 0, none⟩) (tokD l).len c by rw [tokD_len]]
      refine .slice _ _ _ _ _ (fun i j => (cur[i * 4 + j]?).getD undef) (by rw [tokD_len]; exact h1) (fun i j hi hj => ?_) (fun i j k hi hk => ?_)
      · rw [tokD_len] at hi
        have hj4 : j < 4 := hj
        have e := hat i j _ (List.getElem?_eq_getElem hi) hj4
        have e2 : (tokV l[i])[j]? = some (tokV l[i])[j] := List.getElem?_eq_getElem (by show j < 4; exact hj4)
        rw [e2] at e
        show Fz.cell fz g (0 + i * 4 + j) = _
        rw [Nat.zero_add, e]
        unfold Fz.cell
        rw [hF]
        exact e
      · rw [tokD_len] at hi
        have ht := List.getElem?_eq_getElem hi
        rw [tokD_el ht]
        rw [tok_eks] at hk
        match j, hk with
        | 0, hk => obtain rfl := Option.some.inj hk; rw [hat i 0 _ ht (by omega)]; exact .int _ (.i _)
        | 1, hk => obtain rfl := Option.some.inj hk; rw [hat i 1 _ ht (by omega)]; exact .str (.s _)
        | 2, hk => obtain rfl := Option.some.inj hk; rw [hat i 2 _ ht (by omega)]; exact .int _ (.i _)
        | 3, hk => obtain rfl := Option.some.inj hk; rw [hat i 3 _ ht (by omega)]; exact .int _ (.i _)
        | j + 4, hk => simp at hk
def lexF (f : Fz) (w w' : World) (A : Option Addr) : Fz := fun b => match A with | some a => if b = a.block /\ w.heap.size <= b then cellsAt w' b else f b | none => f b
theorem lexF_or {f : Fz} {w w' : World} {A : Option Addr} {b : Nat} {cs : Array Value} (h : lexF f w w' A b = some cs) : f b = some cs ∨ (w.heap.size <= b /\ cellsAt w' b = some cs) := by
  unfold lexF at h
  split at h
  · split at h
    · rename_i hh; exact .inr ⟨hh.2, h⟩
    · exact .inl h
  · exact .inl h
theorem lex_ok : ConOK Try.prog 13 lexC := by
  refine ⟨fun _ _ => by kernel_rfl, fun hp fr args e he hv w0 w ρ vs hw _ ha => ?_, fun _ _ _ _ h => nomatch (con_jf _ _ _ _ _).symm.trans h⟩
  unfold lexC con at he
  split at he
  · rename_i ds ps hds
    split at he
    · rename_i e1 he1
      unfold lexS at he1
      split at he1
      · rename_i s
        obtain rfl := Option.some.inj he1
        obtain rfl := Option.some.inj he
        obtain ⟨hp1, hp2⟩ := all_append.1 hv
        obtain ⟨svs, h, ρ1, id, hun, _, _, hrel⟩ := unP_spec hw [.sc .str] args _ ps hds hp1 vs ha (ids := keepOwn hp (idsX hp args)) (fun i hi ho => keepOwn_mem.2 ⟨hi, ho⟩) 0
        obtain rfl : svs = _ := (congrArg Prod.fst (Option.some.inj hun)).symm
        match vs, hrel with
        | [x], ⟨hx, _⟩ =>
          have hx : x = .string s := hx
          subst hx
          refine (lex_any s w hp2.1).mono ?_
          rintro en w' ⟨A, c, rfl, hown, hb⟩
          have hle : FzLe ρ.fz (lexF ρ.fz w w' A) := fun b cs hbc => by
            unfold lexF
            split
            · split
              · rename_i hh
                rw [hw.froz.new hh.2] at hbc; cases hbc
              · exact hbc
            · exact hbc
          have hrel2 : TRel (lexF ρ.fz w w' A) (.slice 115) (tokD (lexR s).1) (.slice A (lexR s).1.length c) := lex_rel hown fun g cur hg hh hA => by
            subst hA
            show (if g = g /\ w.heap.size <= g then cellsAt w' g else ρ.fz g) = some cur
            rw [if_pos ⟨rfl, hg⟩]
            unfold cellsAt
            rw [hh]
          refine ⟨{ ρ with fz := lexF ρ.fz w w' A }, _, rfl, ⟨_, rfl, hrel2, rfl, rfl, trivial⟩, ⟨⟨fun _ _ h => h, fun _ _ => rfl, hle, rfl, rfl⟩, fun _ _ => rfl, hb.mono (Nat.zero_le _), fun b hlt _ => hb.block b hlt, fun i x hx => ?_, fun i x hx => ?_, fun i j x y hx => ?_, fun b cs hcs => ?_⟩⟩
          · have hx' : look (kills (keepOwn hp (idsX hp args))) i = some x := hx
            rw [(kills_look hx').1]; trivial
          · cases hx
          · cases hx
          · rcases lexF_or hcs with h1 | ⟨h1, h2⟩
            · exact .inl h1
            · exact .inr ⟨.inl h1, cellsAt_some h2, fun _ _ h => by cases h⟩
      · cases he1
    · cases he
  · cases he
end Go.Proofs.Ytbhbjhejkamlnaa.Sx.Z
namespace Go.Proofs.Ytbhbjhejkamlnaa.Sx.Z
open Go.RowKit
def paW (s : ByteArray) : D := tokD (lexR s).1
def paY (s : ByteArray) : Rd := syR (paW s) (s.size : Nat) (mR 0 0 0)
def paO (s : ByteArray) : Bool := decide ((lexR s).2.2 = 0) && decide ((paY s).er = 0)
def paC (s : ByteArray) : D := if paO s = true then (syC (paW s) (s.size : Nat) (mR 0 0 0)).1 else .l []
def paU (s : ByteArray) : D := if paO s = true then (syU (paW s) (s.size : Nat) (mR 0 0 0)).1 else .l []
def paP (s : ByteArray) : D := if paO s = true then (syP (paW s) (s.size : Nat) (mR 0 0 0)).1 else .l []
def paE (s : ByteArray) : Int := if (lexR s).2.2 = 0 then (paY s).er else (lexR s).2.2
def paA (s : ByteArray) : Int := if (lexR s).2.2 = 0 then (if (paY s).er = 0 then 0 else (paY s).pa) else ((lexR s).2.1 : Nat)
theorem ne_of_bne {a b : Int} (h : (a != b) = true) : a ≠ b := by simpa using h
theorem of_not_bne {a b : Int} (h : (a != b) = false) : a = b := by simpa using h
theorem lexR_len (s : ByteArray) : (lexR s).1.length <= 2000 := by
  unfold lexR
  split
  · exact Nat.zero_le _
  · split
    · exact Nat.zero_le _
    · rename_i h
      exact Nat.le_of_not_lt h
theorem paW_ok (s : ByteArray) : rdOK (paW s) (mR 0 0 0).nx := by
  have h := lexR_len s
  have e : (paW s).len = (lexR s).1.length := tokD_len _
  exact ⟨Int.le_refl _, by show (0 : Int) <= _; omega, by omega⟩
noncomputable def parS : List Dat -> Option Eff := fun ds => match ds with
  | [.s s] => some { val := .tup [.agg [.c (.osl 97 0 (.lit 0) (.sym ((paC s).len))), .c (.osl 102 1 (.lit 0) (.sym ((paU s).len))), .c (.osl 87 2 (.lit 0) (.sym ((paP s).len)))], .sc (.int .i64 (.sym (paA s))), .sc (.int .i64 (.sym (paE s)))], vc := [s.size <= 140737488351232], nw := [(0, .orow 97 (paC s)), (1, .orow 102 (paU s)), (2, .orow 87 (paP s))] }
  | _ => none
noncomputable def parC : Con := conS [.sc .str] parS
theorem par_ok : ConOK Try.prog 7 parC := by
  refine fn_obS tt_ok mixed Try.func7 rfl (fun _ _ => by kernel_rfl) (A := fun ds => ⟨fun _ => Cons.of [(13, lexC), (14, sysC)], fun _ => none, fun _ => none⟩) (fun _ _ => (cons_cons lex_ok (cons_cons sys_ok cons_nil))) (by kernel_rfl) ?_
  intro ds
  unfold parS
  split
  · rename_i s
    refine kmp (q := s.size <= 140737488351232 -> s.size <= 140737488351232 /\ (((lexR s).snd.snd != (0 : Int)) = true -> (paC s).len = 0 /\ (paU s).len = 0 /\ (paP s).len = 0 /\ (↑(lexR s).snd.fst : Int) = paA s /\ (lexR s).snd.snd = paE s /\ (paC s).rows = [] /\ (paU s).rows = [] /\ (paP s).rows = []) /\ (((lexR s).snd.snd != (0 : Int)) = false -> rdOK (tokD (lexR s).fst) (0 : Int) /\ (((syR (tokD (lexR s).fst) (↑s.size : Int) (mR (0 : Int) (0 : Int) (0 : Int))).er != (0 : Int)) = true -> (paC s).len = 0 /\ (paU s).len = 0 /\ (paP s).len = 0 /\ (syR (tokD (lexR s).fst) (↑s.size : Int) (mR (0 : Int) (0 : Int) (0 : Int))).pa = paA s /\ (syR (tokD (lexR s).fst) (↑s.size : Int) (mR (0 : Int) (0 : Int) (0 : Int))).er = paE s /\ (paC s).rows = [] /\ (paU s).rows = [] /\ (paP s).rows = []) /\ (((syR (tokD (lexR s).fst) (↑s.size : Int) (mR (0 : Int) (0 : Int) (0 : Int))).er != (0 : Int)) = false -> (syC (tokD (lexR s).fst) (↑s.size : Int) (mR (0 : Int) (0 : Int) (0 : Int))).fst.len = (paC s).len /\ (syU (tokD (lexR s).fst) (↑s.size : Int) (mR (0 : Int) (0 : Int) (0 : Int))).fst.len = (paU s).len /\ (syP (tokD (lexR s).fst) (↑s.size : Int) (mR (0 : Int) (0 : Int) (0 : Int))).fst.len = (paP s).len /\ (0 : Int) = paA s /\ (0 : Int) = paE s /\ (syC (tokD (lexR s).fst) (↑s.size : Int) (mR (0 : Int) (0 : Int) (0 : Int))).fst.rows = (paC s).rows /\ (syU (tokD (lexR s).fst) (↑s.size : Int) (mR (0 : Int) (0 : Int) (0 : Int))).fst.rows = (paU s).rows /\ (syP (tokD (lexR s).fst) (↑s.size : Int) (mR (0 : Int) (0 : Int) (0 : Int))).fst.rows = (paP s).rows))) (by kernel_rfl) ?_
    intro h
    have g := paW_ok s
    refine ⟨h, fun hc => ?_, fun hc => ⟨g, fun hd => ?_, fun hd => ?_⟩⟩
    · have hc : (lexR s).2.2 ≠ 0 := by simpa using hc
      have e : paO s = false := by simp only [paO, decide_eq_false hc, Bool.false_and]
      simp only [paC, paU, paP, paA, paE, e, if_neg hc, Bool.false_eq_true, if_false]
      (repeat' (with_reducible apply And.intro)) <;> first | with_reducible rfl | exact True.intro | with_reducible assumption | decide | assumption | rfl
    · have hc : (lexR s).2.2 = 0 := by simpa using hc
      have hd : (paY s).er ≠ 0 := ne_of_bne hd
      have e : paO s = false := by simp only [paO, decide_eq_false hd, Bool.and_false]
      simp only [paC, paU, paP, paA, paE, e, if_pos hc, if_neg hd, Bool.false_eq_true, if_false]
      (repeat' (with_reducible apply And.intro)) <;> first | with_reducible rfl | exact True.intro | with_reducible assumption | decide | assumption | rfl
    · have hc : (lexR s).2.2 = 0 := by simpa using hc
      have hd : (paY s).er = 0 := of_not_bne hd
      have e : paO s = true := by simp only [paO, decide_eq_true hc, decide_eq_true hd, Bool.and_self]
      simp only [paC, paU, paP, paA, paE, e, if_pos hc, if_pos hd, if_true, hd]
      (repeat' (with_reducible apply And.intro)) <;> first | with_reducible rfl | exact True.intro | with_reducible assumption | decide | assumption | rfl
  · trivial
end Go.Proofs.Ytbhbjhejkamlnaa.Sx.Z
namespace Go.Proofs.Ytbhbjhejkamlnaa.Sx.Z
open Go.RowKit
def txP : ByteArray := ⟨#[112, 114, 111, 99, 32, 112, 32, 123, 32, 120, 32, 61, 32, 49, 32, 43, 32, 50, 32, 42, 32, 51, 32, 59, 32, 125]⟩
def txQ : ByteArray := ⟨#[112, 114, 111, 99, 32, 112]⟩
def tpD : D := .l [[.s ⟨#[112]⟩, .l [], .l [[.i 1, .s ⟨#[120]⟩, .s ByteArray.empty, .i 4, .i 0, .s ByteArray.empty, .l [[.i 1, .i 1, .s ByteArray.empty, .l []], [.i 6, .i 0, .s ByteArray.empty, .l [[.i 1, .i 2, .s ByteArray.empty, .l []], [.i 1, .i 3, .s ByteArray.empty, .l []]]]], .i 0, .i 0, .i 0, .s ByteArray.empty, .l [], .i 0, .i 0, .s ByteArray.empty, .l [], .l [], .l [], .l []]]]]
theorem conS_sub {P : Program} {f : FuncId} {aps : List AP} {S S' : List Dat -> Option Eff} (h : ConOK P f (conS aps S)) (hS : ∀ ds e, S' ds = some e -> S ds = some e) : ConOK P f (conS aps S') := by
  refine ⟨h.enters, fun hp fr args e he => h.calls hp fr args e ?_, fun hp fr caps e he => ?_⟩
  · unfold conS con at he ⊢
    split at he
    · rename_i ds ps hds
      cases hq : S' ds with
      | none => simp only [hq] at he; cases he
      | some x =>
        simp only [hq] at he
        simp only [hds, hS _ _ hq]
        exact he
    · cases he
  · unfold conS at he; rw [con_jf] at he; cases he
theorem ba_eq {a b : ByteArray} (h : (a.toList == b.toList) = true) : a = b := by
  have h := eq_of_beq h
  rw [ByteArray.toList_eq, ByteArray.toList_eq] at h
  exact ByteArray.ext (Array.toList_inj.1 h)
noncomputable def prtS : List Dat -> Option Eff := fun ds => match ds with
  | [.s s] => (match s.toList == txP.toList with
    | true => some { val := .tup [.agg [.c (.osl 97 0 (.lit 0) (.sym (D.len (.l [])))), .c (.osl 102 1 (.lit 0) (.sym (D.len (.l [])))), .c (.osl 87 2 (.lit 0) (.sym (D.len (.l [[.s ⟨#[112]⟩, .l [], .l [[.i 1, .s ⟨#[120]⟩, .s ByteArray.empty, .i 4, .i 0, .s ByteArray.empty, .l [[.i 1, .i 1, .s ByteArray.empty, .l []], [.i 6, .i 0, .s ByteArray.empty, .l [[.i 1, .i 2, .s ByteArray.empty, .l []], [.i 1, .i 3, .s ByteArray.empty, .l []]]]], .i 0, .i 0, .i 0, .s ByteArray.empty, .l [], .i 0, .i 0, .s ByteArray.empty, .l [], .l [], .l [], .l []]]]]))))], .sc (.int .i64 (.sym 0)), .sc (.int .i64 (.sym 0))], vc := [s.size <= 140737488351232], nw := [(0, .orow 97 (.l [])), (1, .orow 102 (.l [])), (2, .orow 87 (.l [[.s ⟨#[112]⟩, .l [], .l [[.i 1, .s ⟨#[120]⟩, .s ByteArray.empty, .i 4, .i 0, .s ByteArray.empty, .l [[.i 1, .i 1, .s ByteArray.empty, .l []], [.i 6, .i 0, .s ByteArray.empty, .l [[.i 1, .i 2, .s ByteArray.empty, .l []], [.i 1, .i 3, .s ByteArray.empty, .l []]]]], .i 0, .i 0, .i 0, .s ByteArray.empty, .l [], .i 0, .i 0, .s ByteArray.empty, .l [], .l [], .l [], .l []]]]]))] }
    | false => match s.toList == txQ.toList with
      | true => some { val := .tup [.agg [.c (.osl 97 0 (.lit 0) (.sym (D.len (.l [])))), .c (.osl 102 1 (.lit 0) (.sym (D.len (.l [])))), .c (.osl 87 2 (.lit 0) (.sym (D.len (.l []))))], .sc (.int .i64 (.sym 6)), .sc (.int .i64 (.sym 5))], vc := [s.size <= 140737488351232], nw := [(0, .orow 97 (.l [])), (1, .orow 102 (.l [])), (2, .orow 87 (.l []))] }
      | false => none)
  | _ => none
set_option maxRecDepth 100000 in
theorem tp_facts : paC txP = .l [] /\ paU txP = .l [] /\ paP txP = tpD /\ paA txP = 0 /\ paE txP = 0 := ⟨by kernel_rfl, by kernel_rfl, by kernel_rfl, by decide +kernel, by decide +kernel⟩
set_option maxRecDepth 100000 in
theorem tq_facts : paC txQ = .l [] /\ paU txQ = .l [] /\ paP txQ = .l [] /\ paA txQ = 6 /\ paE txQ = 5 := ⟨by kernel_rfl, by kernel_rfl, by kernel_rfl, by decide +kernel, by decide +kernel⟩
theorem prt_ok : ConOK Try.prog 7 (conS [.sc .str] prtS) := conS_sub par_ok fun ds e h => by
  unfold prtS at h
  split at h
  · rename_i s
    split at h
    · rename_i hs
      obtain rfl := ba_eq hs
      obtain ⟨a, b, c, d, e⟩ := tp_facts
      rw [← h]
      unfold parS
      simp only [a, b, c, d, e]
      rfl
    · split at h
      · rename_i hs
        obtain rfl := ba_eq hs
        obtain ⟨a, b, c, d, e⟩ := tq_facts
        rw [← h]
        unfold parS
        simp only [a, b, c, d, e]
      · cases h
  · cases h
noncomputable def prsS : FSpec := fun ds _ => match ds with
  | [] => some { val := .one (.sc (.bool (.sym (true)))), vc := [] }
  | _ => none
noncomputable def prsC : Con := con [] prsS
theorem prs_ok : ConOK Try.prog 9 prsC := by
  refine fn_ob tt_ok mixed Try.func9 rfl (fun _ _ => by kernel_rfl) (A := fun ds => ⟨fun _ => Cons.of [(7, (conS [.sc .str] prtS))], fun _ => none, fun _ => none⟩) (fun _ _ => (cons_cons prt_ok cons_nil)) (by kernel_rfl) ?_
  intro ds fr
  unfold prsS
  split
  · skip
    refine kmp (q := txP.size <= 140737488351232 /\ txQ.size <= 140737488351232 /\ (((0 : Int) == (0 : Int) && (↑1 : Int) == (1 : Int)) = true /\ True -> 0 < (1 : Nat)) /\ (((0 : Int) == (0 : Int) && (↑1 : Int) == (1 : Int)) = true /\ True -> 0 < tpD.len) /\ (((0 : Int) == (0 : Int) && (↑1 : Int) == (1 : Int) && (↑(tpD.el 0 ((0 : Nat) + (2 : Nat))).len : Int) == (1 : Int)) = true /\ True -> 0 < (1 : Nat)) /\ (((0 : Int) == (0 : Int) && (↑1 : Int) == (1 : Int) && (↑(tpD.el 0 ((0 : Nat) + (2 : Nat))).len : Int) == (1 : Int)) = true /\ True -> 0 < tpD.len) /\ (((0 : Int) == (0 : Int) && (↑1 : Int) == (1 : Int) && (↑(tpD.el 0 ((0 : Nat) + (2 : Nat))).len : Int) == (1 : Int)) = true /\ True -> 0 < (tpD.el 0 ((0 : Nat) + (2 : Nat))).len) /\ (((0 : Int) == (0 : Int) && (↑1 : Int) == (1 : Int) && (↑(tpD.el 0 ((0 : Nat) + (2 : Nat))).len : Int) == (1 : Int) && (4 : Int) == (4 : Int)) = true /\ True -> 0 < (1 : Nat)) /\ (((0 : Int) == (0 : Int) && (↑1 : Int) == (1 : Int) && (↑(tpD.el 0 ((0 : Nat) + (2 : Nat))).len : Int) == (1 : Int) && (4 : Int) == (4 : Int)) = true /\ True -> 0 < tpD.len) /\ (((0 : Int) == (0 : Int) && (↑1 : Int) == (1 : Int) && (↑(tpD.el 0 ((0 : Nat) + (2 : Nat))).len : Int) == (1 : Int) && (4 : Int) == (4 : Int)) = true /\ True -> 0 < (tpD.el 0 ((0 : Nat) + (2 : Nat))).len) /\ (((0 : Int) == (0 : Int) && (↑1 : Int) == (1 : Int) && (↑(tpD.el 0 ((0 : Nat) + (2 : Nat))).len : Int) == (1 : Int) && (4 : Int) == (4 : Int) && (↑((tpD.el 0 ((0 : Nat) + (2 : Nat))).el 0 ((0 : Nat) + 3 + (3 : Nat))).len : Int) == (2 : Int)) = true /\ True -> 0 < (1 : Nat)) /\ (((0 : Int) == (0 : Int) && (↑1 : Int) == (1 : Int) && (↑(tpD.el 0 ((0 : Nat) + (2 : Nat))).len : Int) == (1 : Int) && (4 : Int) == (4 : Int) && (↑((tpD.el 0 ((0 : Nat) + (2 : Nat))).el 0 ((0 : Nat) + 3 + (3 : Nat))).len : Int) == (2 : Int)) = true /\ True -> 0 < tpD.len) /\ (((0 : Int) == (0 : Int) && (↑1 : Int) == (1 : Int) && (↑(tpD.el 0 ((0 : Nat) + (2 : Nat))).len : Int) == (1 : Int) && (4 : Int) == (4 : Int) && (↑((tpD.el 0 ((0 : Nat) + (2 : Nat))).el 0 ((0 : Nat) + 3 + (3 : Nat))).len : Int) == (2 : Int)) = true /\ True -> 0 < (tpD.el 0 ((0 : Nat) + (2 : Nat))).len) /\ (((0 : Int) == (0 : Int) && (↑1 : Int) == (1 : Int) && (↑(tpD.el 0 ((0 : Nat) + (2 : Nat))).len : Int) == (1 : Int) && (4 : Int) == (4 : Int) && (↑((tpD.el 0 ((0 : Nat) + (2 : Nat))).el 0 ((0 : Nat) + 3 + (3 : Nat))).len : Int) == (2 : Int)) = true /\ True -> 1 < ((tpD.el 0 ((0 : Nat) + (2 : Nat))).el 0 ((0 : Nat) + 3 + (3 : Nat))).len) /\ ((0 : Int) == (0 : Int) && (↑1 : Int) == (1 : Int) && (↑(tpD.el 0 ((0 : Nat) + (2 : Nat))).len : Int) == (1 : Int) && (4 : Int) == (4 : Int) && (↑((tpD.el 0 ((0 : Nat) + (2 : Nat))).el 0 ((0 : Nat) + 3 + (3 : Nat))).len : Int) == (2 : Int) && (6 : Int) == (6 : Int) && (5 : Int) == (5 : Int) && (6 : Int) == (6 : Int)) = true) (by kernel_rfl) ?_
    (repeat' (with_reducible apply And.intro)) <;> first | decide | (intro _; decide) | rfl
  · trivial
end Go.Proofs.Ytbhbjhejkamlnaa.Sx.Z
namespace Go.Proofs.Ytbhbjhejkamlnaa.Sx.Z
open Go.RowKit
def ffR (ws : D) (en e : Int) (r : Rd) : Rd := if r.er = 0 then ⟨r.nx, pkA ws r.nx en, e⟩ else r
def isB (ws : D) (t : ByteArray) (r : Rd) : Bool := r.er == 0 && decide (r.nx < ws.len) && (pkS ws r.nx).toList == t.toList && decide (pkK ws r.nx ≥ 3)
def muR (ws : D) (en : Int) (t : ByteArray) (r : Rd) : Rd := if isB ws t r = true then gx r else ffR ws en 5 r
def kiB (ws : D) (k : Int) (r : Rd) : Bool := r.er == 0 && decide (r.nx < ws.len) && pkK ws r.nx == k
def wnR (ws : D) (en k : Int) (r : Rd) : Rd := if kiB ws k r = true then gx r else ffR ws en 5 r
def wnS (ws : D) (r : Rd) : ByteArray := if kiB ws 1 r = true then pkS ws r.nx else ByteArray.empty
def wnN (ws : D) (r : Rd) : Int := if kiB ws 2 r = true then pkN ws r.nx else 0
theorem isB_eq (ws : D) (t : ByteArray) (nx pa er : Int) : isB ws t (mR nx pa er) = (er == 0 && decide (nx < (ws.len : Int)) && (pkS ws nx).toList == t.toList && decide (pkK ws nx ≥ 3)) := rfl
theorem kiB_eq (ws : D) (k nx pa er : Int) : kiB ws k (mR nx pa er) = (er == 0 && decide (nx < (ws.len : Int)) && pkK ws nx == k) := rfl
theorem pk_in {ws : D} {nx : Int} (h : nx < ws.len) : pkS ws nx = (ws.el nx.toNat 1).toS /\ pkK ws nx = (ws.el nx.toNat 0).toI := ⟨if_pos h, if_pos h⟩
theorem isB_lt {ws : D} {t : ByteArray} {r : Rd} (h : isB ws t r = true) : r.er = 0 /\ r.nx < ws.len := by
  unfold isB at h
  simp only [Bool.and_eq_true] at h
  exact ⟨eq_of_beq h.1.1.1, of_decide_eq_true h.1.1.2⟩
theorem kiB_lt {ws : D} {k : Int} {r : Rd} (h : kiB ws k r = true) : r.er = 0 /\ r.nx < ws.len /\ pkK ws r.nx = k := by
  unfold kiB at h
  simp only [Bool.and_eq_true] at h
  exact ⟨eq_of_beq h.1.1, of_decide_eq_true h.1.2, eq_of_beq h.2⟩
theorem ki_not (ws : D) (k nx pa er : Int) : (er != 0 || decide (nx ≥ (ws.len : Int)) || (ws.el nx.toNat (0 + 0)).toI != k) = !(kiB ws k (mR nx pa er)) := by
  by_cases hl : nx < ws.len
  · have h1 : decide (nx ≥ (ws.len : Int)) = false := decide_eq_false (by omega)
    rw [kiB_eq, (pk_in hl).2]
    simp only [h1, decide_eq_true hl, Bool.or_false, Bool.and_true, Bool.not_and, bne, Nat.add_zero]
  · have h1 : decide (nx ≥ (ws.len : Int)) = true := decide_eq_true (by omega)
    rw [kiB_eq]
    simp only [h1, decide_eq_false hl, Bool.and_false, Bool.false_and, Bool.or_true, Bool.true_or, Bool.not_false]
theorem ki_lt {ws : D} {nx er : Int} (h : (er != 0 || decide (nx ≥ (ws.len : Int))) = false) : nx < ws.len := by
  simp only [Bool.or_eq_false_iff] at h
  have := of_decide_eq_false h.2
  omega
theorem nx2 {ws : D} {nx : Int} (h : rdOK ws nx) (hl : nx < ws.len) : IntKind.i64.wrap (IntKind.i64.wrap (nx + 1) - 1) = nx := by
  obtain ⟨a, b, c⟩ := h
  rw [IntWalk.i64_in (nx + 1) (by omega), IntWalk.i64_in _ (by omega)]; omega
noncomputable def wfaS : List Dat -> Option (Eff × List Seg) := fun ds => match ds with
  | [.d ws, .i nx, .i en, .i er, .i pa, .i e] => some ({ val := .tup [], vc := [rdOK ws nx] }, [.c (.rows 123 ws), .c (.int .i64 (.sym ((ffR ws en e (mR nx pa er)).nx))), .c (.int .i64 (.sym en)), .c (.int .i64 (.sym ((ffR ws en e (mR nx pa er)).er))), .c (.int .i64 (.sym ((ffR ws en e (mR nx pa er)).pa)))])
  | _ => none
noncomputable def wfaC : Con := conM 71 [.c (.rows 123), .c (.int .i64), .c (.int .i64), .c (.int .i64), .c (.int .i64)] [.sc (.int .i64)] wfaS
theorem wfa_ok : ConOK Try.prog 22 wfaC := by
  refine fn_obM tt_ok mixed Try.func22 rfl (fun _ _ => by kernel_rfl) (A := fun ds => ⟨fun _ => Cons.of [], fun _ => none, fun _ => none⟩) (fun _ _ => cons_nil) (by kernel_rfl) ?_
  intro ds
  unfold wfaS
  split
  · rename_i ws nx en er pa e
    refine kmp (q := rdOK ws nx -> ((er != (0 : Int)) = true -> ws.rows = ws.rows /\ nx = (ffR ws en e (mR nx pa er)).nx /\ en = en /\ er = (ffR ws en e (mR nx pa er)).er /\ pa = (ffR ws en e (mR nx pa er)).pa) /\ ((er != (0 : Int)) = false -> (decide (nx < (↑ws.len : Int)) = true -> ((0 : Int) <= nx /\ nx < (↑ws.len : Int)) /\ ws.rows = ws.rows /\ nx = (ffR ws en e (mR nx pa er)).nx /\ en = en /\ e = (ffR ws en e (mR nx pa er)).er /\ (ws.el nx.toNat ((0 : Nat) + (3 : Nat))).toI = (ffR ws en e (mR nx pa er)).pa) /\ (decide (nx < (↑ws.len : Int)) = false -> ws.rows = ws.rows /\ nx = (ffR ws en e (mR nx pa er)).nx /\ en = en /\ e = (ffR ws en e (mR nx pa er)).er /\ en = (ffR ws en e (mR nx pa er)).pa))) (by kernel_rfl) ?_
    intro h
    unfold ffR mR
    refine ⟨fun h0 => ?_, fun h0 => ⟨fun h1 => ⟨⟨h.1, of_decide_eq_true h1⟩, ?_⟩, fun h1 => ?_⟩⟩
    · rw [if_neg (ne_of_bne h0)]
      (repeat' (with_reducible apply And.intro)) <;> first | with_reducible rfl | exact True.intro | assumption | (symm; assumption) | rfl
    · have h1 := of_decide_eq_true h1
      simp only [if_pos (of_not_bne h0), pkA, if_pos h1]
      (repeat' (with_reducible apply And.intro)) <;> first | with_reducible rfl | exact True.intro | assumption | (symm; assumption) | rfl
    · have h1 := of_decide_eq_false h1
      simp only [if_pos (of_not_bne h0), pkA, if_neg h1]
      (repeat' (with_reducible apply And.intro)) <;> first | with_reducible rfl | exact True.intro | assumption | (symm; assumption) | rfl
  · trivial
noncomputable def wisS : List Dat -> Option (Eff × List Seg) := fun ds => match ds with
  | [.d ws, .i nx, .i en, .i er, .i pa, .s t] => some ({ val := .one (.sc (.bool (.sym (isB ws t (mR nx pa er))))), vc := [rdOK ws nx] }, [.c (.rows 123 ws), .c (.int .i64 (.sym (nx))), .c (.int .i64 (.sym en)), .c (.int .i64 (.sym (er))), .c (.int .i64 (.sym (pa)))])
  | _ => none
noncomputable def wisC : Con := conM 71 [.c (.rows 123), .c (.int .i64), .c (.int .i64), .c (.int .i64), .c (.int .i64)] [.sc .str] wisS
theorem wis_ok : ConOK Try.prog 16 wisC := by
  refine fn_obM tt_ok mixed Try.func16 rfl (fun _ _ => by kernel_rfl) (A := fun ds => ⟨fun _ => Cons.of [], fun _ => none, fun _ => none⟩) (fun _ _ => cons_nil) (by kernel_rfl) ?_
  intro ds
  unfold wisS
  split
  · rename_i ws nx en er pa t
    refine kmp (q := rdOK ws nx -> ((er == (0 : Int) && decide (nx < (↑ws.len : Int))) = true /\ True -> (0 : Int) <= nx /\ nx < (↑ws.len : Int)) /\ ((er == (0 : Int) && decide (nx < (↑ws.len : Int)) && (ws.el nx.toNat ((0 : Nat) + (1 : Nat))).toS.toList == t.toList) = true /\ True -> (0 : Int) <= nx /\ nx < (↑ws.len : Int)) /\ (er == (0 : Int) && decide (nx < (↑ws.len : Int)) && (ws.el nx.toNat ((0 : Nat) + (1 : Nat))).toS.toList == t.toList && decide ((ws.el nx.toNat ((0 : Nat) + (0 : Nat))).toI ≥ (3 : Int))) = isB ws t (mR nx pa er) /\ ws.rows = ws.rows /\ nx = nx /\ en = en /\ er = er /\ pa = pa) (by kernel_rfl) ?_
    intro h
    refine ⟨fun hc => ⟨h.1, ?_⟩, fun hc => ⟨h.1, ?_⟩, ?_, rfl, rfl, rfl, rfl, rfl⟩
    · have := hc.1
      simp only [Bool.and_eq_true] at this
      exact of_decide_eq_true this.2
    · have := hc.1
      simp only [Bool.and_eq_true] at this
      exact of_decide_eq_true this.1.2
    · by_cases hl : nx < ws.len
      · rw [isB_eq, (pk_in hl).1, (pk_in hl).2]
      · rw [isB_eq]
        simp only [decide_eq_false hl, Bool.and_false, Bool.false_and]
  · trivial
noncomputable def wmuS : List Dat -> Option (Eff × List Seg) := fun ds => match ds with
  | [.d ws, .i nx, .i en, .i er, .i pa, .s t] => some ({ val := .tup [], vc := [rdOK ws nx] }, [.c (.rows 123 ws), .c (.int .i64 (.sym ((muR ws en t (mR nx pa er)).nx))), .c (.int .i64 (.sym en)), .c (.int .i64 (.sym ((muR ws en t (mR nx pa er)).er))), .c (.int .i64 (.sym ((muR ws en t (mR nx pa er)).pa)))])
  | _ => none
noncomputable def wmuC : Con := conM 71 [.c (.rows 123), .c (.int .i64), .c (.int .i64), .c (.int .i64), .c (.int .i64)] [.sc .str] wmuS
theorem wmu_ok : ConOK Try.prog 19 wmuC := by
  refine fn_obM tt_ok mixed Try.func19 rfl (fun _ _ => by kernel_rfl) (A := fun ds => ⟨fun _ => Cons.of [(16, wisC), (22, wfaC)], fun _ => none, fun _ => none⟩) (fun _ _ => (cons_cons wis_ok (cons_cons wfa_ok cons_nil))) (by kernel_rfl) ?_
  intro ds
  unfold wmuS
  split
  · rename_i ws nx en er pa t
    refine kmp (q := rdOK ws nx -> rdOK ws nx /\ ((!isB ws t (mR nx pa er)) = true -> rdOK ws nx /\ ws.rows = ws.rows /\ (ffR ws en (5 : Int) (mR nx pa er)).nx = (muR ws en t (mR nx pa er)).nx /\ en = en /\ (ffR ws en (5 : Int) (mR nx pa er)).er = (muR ws en t (mR nx pa er)).er /\ (ffR ws en (5 : Int) (mR nx pa er)).pa = (muR ws en t (mR nx pa er)).pa) /\ ((!isB ws t (mR nx pa er)) = false -> ws.rows = ws.rows /\ IntKind.i64.wrap (nx + 1) = (muR ws en t (mR nx pa er)).nx /\ en = en /\ er = (muR ws en t (mR nx pa er)).er /\ pa = (muR ws en t (mR nx pa er)).pa)) (by kernel_rfl) ?_
    intro h
    refine ⟨h, fun hc => ?_, fun hc => ?_⟩
    · have hb : isB ws t (mR nx pa er) = false := by simpa using hc
      have e : muR ws en t (mR nx pa er) = ffR ws en 5 (mR nx pa er) := if_neg (by rw [hb]; decide)
      rw [e]
      (repeat' (with_reducible apply And.intro)) <;> first | with_reducible rfl | exact True.intro | assumption | (symm; assumption) | rfl
    · have hb : isB ws t (mR nx pa er) = true := by simpa using hc
      have e : muR ws en t (mR nx pa er) = gx (mR nx pa er) := if_pos hb
      rw [e, nx1 h (isB_lt hb).2]
      (repeat' (with_reducible apply And.intro)) <;> first | with_reducible rfl | exact True.intro | assumption | (symm; assumption) | rfl
  · trivial
noncomputable def wnaS : List Dat -> Option (Eff × List Seg) := fun ds => match ds with
  | [.d ws, .i nx, .i en, .i er, .i pa] => some ({ val := .one (.sc (.raw (.string (wnS ws (mR nx pa er))))), vc := [rdOK ws nx] }, [.c (.rows 123 ws), .c (.int .i64 (.sym ((wnR ws en 1 (mR nx pa er)).nx))), .c (.int .i64 (.sym en)), .c (.int .i64 (.sym ((wnR ws en 1 (mR nx pa er)).er))), .c (.int .i64 (.sym ((wnR ws en 1 (mR nx pa er)).pa)))])
  | _ => none
noncomputable def wnaC : Con := conM 71 [.c (.rows 123), .c (.int .i64), .c (.int .i64), .c (.int .i64), .c (.int .i64)] [] wnaS
theorem wna_ok : ConOK Try.prog 18 wnaC := by
  refine fn_obM tt_ok mixed Try.func18 rfl (fun _ _ => by kernel_rfl) (A := fun ds => ⟨fun _ => Cons.of [(22, wfaC)], fun _ => none, fun _ => none⟩) (fun _ _ => (cons_cons wfa_ok cons_nil)) (by kernel_rfl) ?_
  intro ds
  unfold wnaS
  split
  · rename_i ws nx en er pa
    refine kmp (q := rdOK ws nx -> ((er != (0 : Int) || decide (nx ≥ (↑ws.len : Int))) = false /\ True -> (0 : Int) <= nx /\ nx < (↑ws.len : Int)) /\ ((er != (0 : Int) || decide (nx ≥ (↑ws.len : Int)) || (ws.el nx.toNat ((0 : Nat) + (0 : Nat))).toI != (1 : Int)) = true -> rdOK ws nx /\ Value.string (ByteArray.mk #[]) = Value.string (wnS ws (mR nx pa er)) /\ ws.rows = ws.rows /\ (ffR ws en (5 : Int) (mR nx pa er)).nx = (wnR ws en (1 : Int) (mR nx pa er)).nx /\ en = en /\ (ffR ws en (5 : Int) (mR nx pa er)).er = (wnR ws en (1 : Int) (mR nx pa er)).er /\ (ffR ws en (5 : Int) (mR nx pa er)).pa = (wnR ws en (1 : Int) (mR nx pa er)).pa) /\ ((er != (0 : Int) || decide (nx ≥ (↑ws.len : Int)) || (ws.el nx.toNat ((0 : Nat) + (0 : Nat))).toI != (1 : Int)) = false -> ((0 : Int) <= IntKind.i64.wrap (IntKind.i64.wrap (nx + 1) - (1 : Int)) /\ IntKind.i64.wrap (IntKind.i64.wrap (nx + 1) - (1 : Int)) < (↑ws.len : Int)) /\ Value.string (ws.el (IntKind.i64.wrap (IntKind.i64.wrap (nx + 1) - (1 : Int))).toNat ((0 : Nat) + (1 : Nat))).toS = Value.string (wnS ws (mR nx pa er)) /\ ws.rows = ws.rows /\ IntKind.i64.wrap (nx + 1) = (wnR ws en (1 : Int) (mR nx pa er)).nx /\ en = en /\ er = (wnR ws en (1 : Int) (mR nx pa er)).er /\ pa = (wnR ws en (1 : Int) (mR nx pa er)).pa)) (by kernel_rfl) ?_
    intro h
    rw [ki_not, Bool.not_eq_true', Bool.not_eq_false']
    refine ⟨fun hc => ⟨h.1, ki_lt hc.1⟩, fun hc => ?_, fun hc => ?_⟩
    · have e : wnR ws en 1 (mR nx pa er) = ffR ws en 5 (mR nx pa er) := if_neg (by rw [hc]; decide)
      have e2 : wnS ws (mR nx pa er) = ByteArray.empty := if_neg (by rw [hc]; decide)
      rw [e, e2]
      (repeat' (with_reducible apply And.intro)) <;> first | with_reducible rfl | exact True.intro | assumption | (symm; assumption) | rfl
    · obtain ⟨k1, k2, k3⟩ := kiB_lt hc
      have e : wnR ws en 1 (mR nx pa er) = gx (mR nx pa er) := if_pos hc
      have e2 : wnS ws (mR nx pa er) = pkS ws nx := if_pos hc
      have e3 : pkS ws nx = (ws.el nx.toNat 1).toS := if_pos k2
      rw [nx2 h k2, nx1 h k2, e, e2, e3]
      exact ⟨⟨h.1, k2⟩, rfl, rfl, rfl, rfl, rfl, rfl⟩
  · trivial
noncomputable def wnuS : List Dat -> Option (Eff × List Seg) := fun ds => match ds with
  | [.d ws, .i nx, .i en, .i er, .i pa] => some ({ val := .one (.sc (.int .i64 (.sym (wnN ws (mR nx pa er))))), vc := [rdOK ws nx] }, [.c (.rows 123 ws), .c (.int .i64 (.sym ((wnR ws en 2 (mR nx pa er)).nx))), .c (.int .i64 (.sym en)), .c (.int .i64 (.sym ((wnR ws en 2 (mR nx pa er)).er))), .c (.int .i64 (.sym ((wnR ws en 2 (mR nx pa er)).pa)))])
  | _ => none
noncomputable def wnuC : Con := conM 71 [.c (.rows 123), .c (.int .i64), .c (.int .i64), .c (.int .i64), .c (.int .i64)] [] wnuS
theorem wnu_ok : ConOK Try.prog 20 wnuC := by
  refine fn_obM tt_ok mixed Try.func20 rfl (fun _ _ => by kernel_rfl) (A := fun ds => ⟨fun _ => Cons.of [(22, wfaC)], fun _ => none, fun _ => none⟩) (fun _ _ => (cons_cons wfa_ok cons_nil)) (by kernel_rfl) ?_
  intro ds
  unfold wnuS
  split
  · rename_i ws nx en er pa
    refine kmp (q := rdOK ws nx -> ((er != (0 : Int) || decide (nx ≥ (↑ws.len : Int))) = false /\ True -> (0 : Int) <= nx /\ nx < (↑ws.len : Int)) /\ ((er != (0 : Int) || decide (nx ≥ (↑ws.len : Int)) || (ws.el nx.toNat ((0 : Nat) + (0 : Nat))).toI != (2 : Int)) = true -> rdOK ws nx /\ (0 : Int) = wnN ws (mR nx pa er) /\ ws.rows = ws.rows /\ (ffR ws en (5 : Int) (mR nx pa er)).nx = (wnR ws en (2 : Int) (mR nx pa er)).nx /\ en = en /\ (ffR ws en (5 : Int) (mR nx pa er)).er = (wnR ws en (2 : Int) (mR nx pa er)).er /\ (ffR ws en (5 : Int) (mR nx pa er)).pa = (wnR ws en (2 : Int) (mR nx pa er)).pa) /\ ((er != (0 : Int) || decide (nx ≥ (↑ws.len : Int)) || (ws.el nx.toNat ((0 : Nat) + (0 : Nat))).toI != (2 : Int)) = false -> ((0 : Int) <= IntKind.i64.wrap (IntKind.i64.wrap (nx + 1) - (1 : Int)) /\ IntKind.i64.wrap (IntKind.i64.wrap (nx + 1) - (1 : Int)) < (↑ws.len : Int)) /\ (ws.el (IntKind.i64.wrap (IntKind.i64.wrap (nx + 1) - (1 : Int))).toNat ((0 : Nat) + (2 : Nat))).toI = wnN ws (mR nx pa er) /\ ws.rows = ws.rows /\ IntKind.i64.wrap (nx + 1) = (wnR ws en (2 : Int) (mR nx pa er)).nx /\ en = en /\ er = (wnR ws en (2 : Int) (mR nx pa er)).er /\ pa = (wnR ws en (2 : Int) (mR nx pa er)).pa)) (by kernel_rfl) ?_
    intro h
    rw [ki_not, Bool.not_eq_true', Bool.not_eq_false']
    refine ⟨fun hc => ⟨h.1, ki_lt hc.1⟩, fun hc => ?_, fun hc => ?_⟩
    · have e : wnR ws en 2 (mR nx pa er) = ffR ws en 5 (mR nx pa er) := if_neg (by rw [hc]; decide)
      have e2 : wnN ws (mR nx pa er) = 0 := if_neg (by rw [hc]; decide)
      rw [e, e2]
      (repeat' (with_reducible apply And.intro)) <;> first | with_reducible rfl | exact True.intro | assumption | (symm; assumption) | rfl
    · obtain ⟨k1, k2, k3⟩ := kiB_lt hc
      have e : wnR ws en 2 (mR nx pa er) = gx (mR nx pa er) := if_pos hc
      have e2 : wnN ws (mR nx pa er) = pkN ws nx := if_pos hc
      have e3 : pkN ws nx = (ws.el nx.toNat 2).toI := if_pos k2
      rw [nx2 h k2, nx1 h k2, e, e2, e3]
      exact ⟨⟨h.1, k2⟩, rfl, rfl, rfl, rfl, rfl, rfl⟩
  · trivial
end Go.Proofs.Ytbhbjhejkamlnaa.Sx.Z
namespace Go.Proofs.Ytbhbjhejkamlnaa.Sx
def cellZ (s : St) (t j : Nat) : Int := match look s.hp (idOf s t) with | some (.own _ l) => (match l[j]? with | some (.c (.int _ x)) => x.v | _ => 0) | _ => 0
def famK (s : St) (sl : Slots) (ks : List Nat) : St := { tm := sl ++ keepS s.tm ks, hp := s.hp, nx := s.nx }
end Go.Proofs.Ytbhbjhejkamlnaa.Sx
namespace Go.Proofs.Ytbhbjhejkamlnaa.Sx.Z
open Go.RowKit
noncomputable def wpaS (P : PF) (m : Nat) : List Dat -> Option (Eff × List Seg) := fun ds => match ds with
  | [.d ws, .i nx, .i en, .i er, .i pa, .i dp] => some ({ val := .one (.agg [.c (.int .i64 (.sym ((P en ws dp (mR nx pa er)).1).k)), .c (.int .i64 (.sym ((P en ws dp (mR nx pa er)).1).n)), .c (.raw (.string ((P en ws dp (mR nx pa er)).1).s)), .c (.osl 45 0 (.lit 0) (.sym ((P en ws dp (mR nx pa er)).1).d.len))]), vc := [rdOK ws nx, dpOK ws (mR nx pa er) dp, left ws (mR nx pa er) < m], nw := [(0, .orow 45 (P en ws dp (mR nx pa er)).1.d)] }, [.c (.rows 123 ws), .c (.int .i64 (.sym ((((P en ws dp (mR nx pa er)).2)).nx))), .c (.int .i64 (.sym en)), .c (.int .i64 (.sym ((((P en ws dp (mR nx pa er)).2)).er))), .c (.int .i64 (.sym ((((P en ws dp (mR nx pa er)).2)).pa)))])
  | _ => none
noncomputable def wpaC (P : PF) (m : Nat) : Con := conM 71 [.c (.rows 123), .c (.int .i64), .c (.int .i64), .c (.int .i64), .c (.int .i64)] [.sc (.int .i64)] (wpaS P m)
def ixR (ws sg : D) (r : Rd) : Nat -> Int
  | 0 => -1
  | i + 1 => if isB ws (sg.el i 0).toS r = true then (i : Int) else ixR ws sg r i
def kQ (ws sg : D) (fi : Int) (r : Rd) : Int := if r.er = 0 /\ 0 <= ixR ws sg r sg.len then fi + ixR ws sg r sg.len else 0
def cQL (P : Rd -> Xp × Rd) (K : Rd -> Int) : Nat -> Xp -> Rd -> Xp × Rd
  | 0, x, r => (x, r)
  | m + 1, x, r => if K r = 0 then (x, r) else cQL P K m (X2 (K r) x (P (gx r)).1) (P (gx r)).2
def cQA (P : Rd -> Xp × Rd) (K : Rd -> Int) (ws : D) (r : Rd) : Xp × Rd := cQL P K (left ws (P r).2) (P r).1 (P r).2
def KOK (ws : D) (K : Rd -> Int) : Prop := ∀ r, K r ≠ 0 -> r.nx < ws.len
theorem ix_lt {ws sg : D} {r : Rd} : ∀ n, 0 <= ixR ws sg r n -> r.er = 0 /\ r.nx < ws.len /\ ixR ws sg r n < n
  | 0, h => absurd (show (0 : Int) <= -1 from h) (by decide)
  | n + 1, h => by
    unfold ixR at h ⊢
    split
    · rename_i hb
      have := isB_lt hb
      exact ⟨this.1, this.2, by omega⟩
    · rename_i hb
      rw [if_neg hb] at h
      have := ix_lt n h
      exact ⟨this.1, this.2.1, by omega⟩
theorem ix_ge {ws sg : D} {r : Rd} : ∀ n, -1 <= ixR ws sg r n /\ ixR ws sg r n < n ∨ n = 0
  | 0 => .inr rfl
  | n + 1 => by
    left
    unfold ixR
    split
    · exact ⟨by omega, by omega⟩
    · rcases ix_ge (ws := ws) (sg := sg) (r := r) n with h | h
      · exact ⟨h.1, by omega⟩
      · subst h
        show -1 <= (-1 : Int) /\ (-1 : Int) < ((0 + 1 : Nat) : Int)
        decide
theorem ix_m1 {ws sg : D} {r : Rd} (n : Nat) : -1 <= ixR ws sg r n := by
  rcases ix_ge (ws := ws) (sg := sg) (r := r) n with h | h
  · exact h.1
  · subst h
    show -1 <= (-1 : Int)
    decide
theorem kQ_ok {ws sg : D} {fi : Int} : KOK ws (kQ ws sg fi) := fun r h => by
  unfold kQ at h
  split at h
  · rename_i h1; exact (ix_lt _ h1.2).2.1
  · exact absurd rfl h
theorem cQL_end {P : Rd -> Xp × Rd} {K : Rd -> Int} {x : Xp} {r : Rd} (h : K r = 0) : ∀ m, cQL P K m x r = (x, r)
  | 0 => rfl
  | m + 1 => if_pos h
theorem cQL_fuel {P : Rd -> Xp × Rd} {K : Rd -> Int} {ws : D} (hP : PaOK ws P) (he : KOK ws K) : ∀ (n : Nat) (r : Rd) (x : Xp), rdOK ws r.nx -> left ws r <= n -> cQL P K n x r = cQL P K (left ws r) x r := by
  intro n
  induction n using Nat.strongRecOn with
  | ind n ih =>
    intro r x h hl
    by_cases hk : K r = 0
    · rw [cQL_end hk, cQL_end hk]
    · obtain ⟨g1, g2⟩ := gx_ok h (he r hk)
      obtain ⟨u1, u2, _⟩ := hP.up (gx r) g1
      have u3 := left_le (ws := ws) u1
      cases n with
      | zero => omega
      | succ k =>
        rw [g2, cQL, if_neg hk, cQL, if_neg hk, ih k (by omega) _ _ u2 (by omega), ih (left ws (gx r)) (by omega) _ _ u2 u3]
theorem cQL_step {P : Rd -> Xp × Rd} {K : Rd -> Int} {ws : D} (hP : PaOK ws P) (he : KOK ws K) {r : Rd} (x : Xp) (h : rdOK ws r.nx) (hk : K r ≠ 0) : cQL P K (left ws (P (gx r)).2) (X2 (K r) x (P (gx r)).1) (P (gx r)).2 = cQL P K (left ws r) x r := by
  obtain ⟨g1, g2⟩ := gx_ok h (he r hk)
  obtain ⟨u1, u2, _⟩ := hP.up (gx r) g1
  rw [g2, cQL, if_neg hk, cQL_fuel hP he (left ws (gx r)) _ _ u2 (left_le u1)]
theorem cQL_up {P : Rd -> Xp × Rd} {K : Rd -> Int} {ws : D} (hP : PaOK ws P) (he : KOK ws K) : ∀ (m : Nat) (x : Xp) (r : Rd), rdOK ws r.nx -> x.d.len <= 2 -> r.nx <= (cQL P K m x r).2.nx /\ rdOK ws (cQL P K m x r).2.nx /\ (cQL P K m x r).1.d.len <= 2
  | 0, x, r, h, hx => ⟨Int.le_refl _, h, hx⟩
  | m + 1, x, r, h, hx => by
    by_cases hk : K r = 0
    · rw [cQL_end hk]
      exact ⟨Int.le_refl _, h, hx⟩
    · obtain ⟨g1, g2⟩ := gx_ok h (he r hk)
      obtain ⟨u1, u2, u3⟩ := hP.up (gx r) g1
      rw [cQL, if_neg hk]
      obtain ⟨w1, w2, w3⟩ := cQL_up hP he m (X2 (K r) x (P (gx r)).1) (P (gx r)).2 u2 (Nat.le_refl _)
      have e5 : (gx r).nx = r.nx + 1 := rfl
      exact ⟨by omega, w2, w3⟩
theorem cQA_up {P : Rd -> Xp × Rd} {K : Rd -> Int} {ws : D} (hP : PaOK ws P) (he : KOK ws K) : PaOK ws (cQA P K ws) := ⟨fun r h => by
  obtain ⟨u1, u2, u3⟩ := hP.up r h
  obtain ⟨w1, w2, w3⟩ := cQL_up hP he (left ws (P r).2) (P r).1 (P r).2 u2 u3
  exact ⟨Int.le_trans u1 w1, w2, w3⟩⟩
def sgM : D := .l [[.s ⟨#[42]⟩], [.s ⟨#[47]⟩], [.s ⟨#[37]⟩]]
def sgA : D := .l [[.s ⟨#[43]⟩], [.s ⟨#[45]⟩]]
noncomputable def wc6S (P : PF) (m : Nat) : List Dat -> Option (Eff × List Seg) := fun ds => match ds with
  | [.d ws, .i nx, .i en, .i er, .i pa, .i dp, .d sg, .i fi] => some ({ val := .one (.agg [.c (.int .i64 (.sym ((cQA (P en ws dp) (kQ ws sg fi) ws (mR nx pa er)).1).k)), .c (.int .i64 (.sym ((cQA (P en ws dp) (kQ ws sg fi) ws (mR nx pa er)).1).n)), .c (.raw (.string ((cQA (P en ws dp) (kQ ws sg fi) ws (mR nx pa er)).1).s)), .c (.osl 45 0 (.lit 0) (.sym ((cQA (P en ws dp) (kQ ws sg fi) ws (mR nx pa er)).1).d.len))]), vc := [rdOK ws nx, fi = 6, sg.len <= 10, dpOK ws (mR nx pa er) dp, left ws (mR nx pa er) < m], nw := [(0, .orow 45 (cQA (P en ws dp) (kQ ws sg fi) ws (mR nx pa er)).1.d)] }, [.c (.rows 123 ws), .c (.int .i64 (.sym (((cQA (P en ws dp) (kQ ws sg fi) ws (mR nx pa er)).2).nx))), .c (.int .i64 (.sym en)), .c (.int .i64 (.sym (((cQA (P en ws dp) (kQ ws sg fi) ws (mR nx pa er)).2).er))), .c (.int .i64 (.sym (((cQA (P en ws dp) (kQ ws sg fi) ws (mR nx pa er)).2).pa)))])
  | _ => none
noncomputable def wc6C (P : PF) (m : Nat) : Con := conM 71 [.c (.rows 123), .c (.int .i64), .c (.int .i64), .c (.int .i64), .c (.int .i64)] [.sc (.int .i64), .sc (.rows 9), .sc (.int .i64)] (wc6S P m)
theorem wc6_ok {P : PF} {m : Nat} (hP : ConOK Try.prog 92 (wpaC P m)) (hPa : ∀ en ws dp, PaOK ws (P en ws dp)) : ConOK Try.prog 75 (wc6C P m) := by
  refine fn_obM tt_ok mixed Try.func75 rfl (fun _ _ => by kernel_rfl) (A := fun ds => ⟨fun _ => Cons.of [(16, wisC), (92, (wpaC P m))], fun k => match k, ds with | 5, [.d ws, .i nx, .i en, .i er, .i pa, .i dp, .d sg, .i fi] => some { ι := Xp × Rd, pre := fun _ q => rdOK ws q.2.nx /\ (cQL (P en ws dp) (kQ ws sg fi) (left ws q.2) q.1 q.2 = cQA (P en ws dp) (kQ ws sg fi) ws (mR nx pa er)) /\ q.1.d.len <= 2 /\ nx <= q.2.nx, μ := fun q => left ws q.2, st := fun s q => famR s [] [0, 1, 2, 3, 8, 9] [(0, .own 71 ([.c (.rows 123 ws), .c (.int .i64 (.sym ((q.2).nx))), .c (.int .i64 (.sym en)), .c (.int .i64 (.sym ((q.2).er))), .c (.int .i64 (.sym ((q.2).pa)))])), (idOf s 9, .own 45 ([.c (.int .i64 (.sym (q.1).k)), .c (.int .i64 (.sym (q.1).n)), .c (.raw (.string (q.1).s)), .c (.osl 45 (s.nx - 1) (.lit 0) (.sym (q.1).d.len))])), (s.nx - 1, .orow 45 (q.1.d))] [8] } | 8, [.d ws, .i nx, .i en, .i er, .i pa, .i dp, .d sg, .i fi] => some { ι := Nat, pre := fun _ i => i <= sg.len /\ True, μ := fun i => sg.len + 1 - i, st := fun s i => famK s [(10, .one (.sc (.int .i64 (.sym (ixR ws sg (mR (cellZ s 0 1) (cellZ s 0 4) (cellZ s 0 3)) i))))), (11, .one (.sc (.int .i64 (.sym ((i : Nat))))))] [0, 1, 2, 3, 8, 9] } | _, _ => none, fun _ => none⟩) (fun _ _ => (cons_cons wis_ok (cons_cons hP cons_nil))) (by kernel_rfl) ?_
  intro ds
  unfold wc6S
  split
  · rename_i ws nx en er pa dp sg fi
    refine kmp (q := rdOK ws nx -> fi = (6 : Int) -> sg.len <= 10 -> dpOK ws (mR nx pa er) dp -> left ws (mR nx pa er) < m -> ((fi == (6 : Int)) = true -> rdOK ws nx /\ dpOK ws (mR nx pa er) dp /\ left ws (mR nx pa er) < m /\ (∃ (i : Xp × Rd), (rdOK ws i.snd.nx /\ cQL (P en ws dp) (kQ ws sg fi) (left ws i.snd) i.fst i.snd = cQA (P en ws dp) (kQ ws sg fi) ws (mR nx pa er) /\ i.fst.d.len <= 2 /\ nx <= i.snd.nx) /\ dp = dp /\ sg.rows = sg.rows /\ fi = fi /\ ws.rows = ws.rows /\ (P en ws dp (mR nx pa er)).snd.nx = i.snd.nx /\ en = en /\ (P en ws dp (mR nx pa er)).snd.er = i.snd.er /\ (P en ws dp (mR nx pa er)).snd.pa = i.snd.pa /\ (P en ws dp (mR nx pa er)).fst.k = i.fst.k /\ (P en ws dp (mR nx pa er)).fst.n = i.fst.n /\ Value.string (P en ws dp (mR nx pa er)).fst.s = Value.string i.fst.s /\ (P en ws dp (mR nx pa er)).fst.d.len = i.fst.d.len /\ (P en ws dp (mR nx pa er)).fst.d.rows = i.fst.d.rows /\ (0 : Int) = (0 : Int) /\ (0 : Int) = (0 : Int) /\ Value.string ByteArray.empty = Value.string ByteArray.empty) /\ ∀ (i : Xp × Rd), rdOK ws i.snd.nx /\ cQL (P en ws dp) (kQ ws sg fi) (left ws i.snd) i.fst i.snd = cQA (P en ws dp) (kQ ws sg fi) ws (mR nx pa er) /\ i.fst.d.len <= 2 /\ nx <= i.snd.nx -> ((i.snd.er == (0 : Int)) = true -> (∃ (i_1 : Nat), (i_1 <= sg.len /\ True) /\ (-1 : Int) = ixR ws sg i.snd i_1 /\ (0 : Int) = (↑i_1 : Int) /\ dp = dp /\ sg.rows = sg.rows /\ fi = fi /\ ws.rows = ws.rows /\ i.snd.nx = i.snd.nx /\ en = en /\ i.snd.er = i.snd.er /\ i.snd.pa = i.snd.pa /\ i.fst.k = i.fst.k /\ i.fst.n = i.fst.n /\ Value.string i.fst.s = Value.string i.fst.s /\ i.fst.d.len = i.fst.d.len /\ i.fst.d.rows = i.fst.d.rows /\ (0 : Int) = (0 : Int) /\ (0 : Int) = (0 : Int) /\ Value.string ByteArray.empty = Value.string ByteArray.empty) /\ ∀ (i_1 : Nat), i_1 <= sg.len /\ True -> (decide ((↑i_1 : Int) < (↑sg.len : Int)) = true -> ((0 : Int) <= (↑i_1 : Int) /\ (↑i_1 : Int) < (↑sg.len : Int)) /\ rdOK ws i.snd.nx /\ (isB ws (sg.el (↑i_1 : Int).toNat (0 : Nat)).toS i.snd = true -> ∃ (j : Nat), (j <= sg.len /\ True) /\ sg.len + 1 - j < sg.len + 1 - i_1 /\ (↑i_1 : Int) = ixR ws sg i.snd j /\ IntKind.i64.wrap ((↑i_1 : Int) + 1) = (↑j : Int) /\ dp = dp /\ sg.rows = sg.rows /\ fi = fi /\ ws.rows = ws.rows /\ i.snd.nx = i.snd.nx /\ en = en /\ i.snd.er = i.snd.er /\ i.snd.pa = i.snd.pa /\ i.fst.k = i.fst.k /\ i.fst.n = i.fst.n /\ Value.string i.fst.s = Value.string i.fst.s /\ i.fst.d.len = i.fst.d.len /\ i.fst.d.rows = i.fst.d.rows /\ (0 : Int) = (0 : Int) /\ (0 : Int) = (0 : Int) /\ Value.string ByteArray.empty = Value.string ByteArray.empty) /\ (isB ws (sg.el (↑i_1 : Int).toNat (0 : Nat)).toS i.snd = false -> ∃ (j : Nat), (j <= sg.len /\ True) /\ sg.len + 1 - j < sg.len + 1 - i_1 /\ ixR ws sg i.snd i_1 = ixR ws sg i.snd j /\ IntKind.i64.wrap ((↑i_1 : Int) + 1) = (↑j : Int) /\ dp = dp /\ sg.rows = sg.rows /\ fi = fi /\ ws.rows = ws.rows /\ i.snd.nx = i.snd.nx /\ en = en /\ i.snd.er = i.snd.er /\ i.snd.pa = i.snd.pa /\ i.fst.k = i.fst.k /\ i.fst.n = i.fst.n /\ Value.string i.fst.s = Value.string i.fst.s /\ i.fst.d.len = i.fst.d.len /\ i.fst.d.rows = i.fst.d.rows /\ (0 : Int) = (0 : Int) /\ (0 : Int) = (0 : Int) /\ Value.string ByteArray.empty = Value.string ByteArray.empty)) /\ (decide ((↑i_1 : Int) < (↑sg.len : Int)) = false -> (decide (ixR ws sg i.snd i_1 < (0 : Int)) = true -> i.fst.k = (cQA (P en ws dp) (kQ ws sg fi) ws (mR nx pa er)).fst.k /\ i.fst.n = (cQA (P en ws dp) (kQ ws sg fi) ws (mR nx pa er)).fst.n /\ Value.string i.fst.s = Value.string (cQA (P en ws dp) (kQ ws sg fi) ws (mR nx pa er)).fst.s /\ i.fst.d.len = (cQA (P en ws dp) (kQ ws sg fi) ws (mR nx pa er)).fst.d.len /\ ws.rows = ws.rows /\ i.snd.nx = (cQA (P en ws dp) (kQ ws sg fi) ws (mR nx pa er)).snd.nx /\ en = en /\ i.snd.er = (cQA (P en ws dp) (kQ ws sg fi) ws (mR nx pa er)).snd.er /\ i.snd.pa = (cQA (P en ws dp) (kQ ws sg fi) ws (mR nx pa er)).snd.pa /\ i.fst.d.rows = (cQA (P en ws dp) (kQ ws sg fi) ws (mR nx pa er)).fst.d.rows) /\ (decide (ixR ws sg i.snd i_1 < (0 : Int)) = false -> ((fi == (6 : Int)) = true -> rdOK ws (IntKind.i64.wrap (i.snd.nx + 1)) /\ dpOK ws (mR (IntKind.i64.wrap (i.snd.nx + 1)) i.snd.pa i.snd.er) dp /\ left ws (mR (IntKind.i64.wrap (i.snd.nx + 1)) i.snd.pa i.snd.er) < m /\ 0 + i.fst.d.len <= i.fst.d.len /\ 0 + (P en ws dp (mR (IntKind.i64.wrap (i.snd.nx + 1)) i.snd.pa i.snd.er)).fst.d.len <= (P en ws dp (mR (IntKind.i64.wrap (i.snd.nx + 1)) i.snd.pa i.snd.er)).fst.d.len /\ ∃ (j : Xp × Rd), (rdOK ws j.snd.nx /\ cQL (P en ws dp) (kQ ws sg fi) (left ws j.snd) j.fst j.snd = cQA (P en ws dp) (kQ ws sg fi) ws (mR nx pa er) /\ j.fst.d.len <= 2 /\ nx <= j.snd.nx) /\ left ws j.snd < left ws i.snd /\ dp = dp /\ sg.rows = sg.rows /\ fi = fi /\ ws.rows = ws.rows /\ (P en ws dp (mR (IntKind.i64.wrap (i.snd.nx + 1)) i.snd.pa i.snd.er)).snd.nx = j.snd.nx /\ en = en /\ (P en ws dp (mR (IntKind.i64.wrap (i.snd.nx + 1)) i.snd.pa i.snd.er)).snd.er = j.snd.er /\ (P en ws dp (mR (IntKind.i64.wrap (i.snd.nx + 1)) i.snd.pa i.snd.er)).snd.pa = j.snd.pa /\ IntKind.i64.wrap (fi + ixR ws sg i.snd i_1) = j.fst.k /\ (0 : Int) = j.fst.n /\ Value.string ByteArray.empty = Value.string j.fst.s /\ 2 = j.fst.d.len /\ [[D.i i.fst.k, D.i i.fst.n, D.s i.fst.s, i.fst.d.sub 0 ((0 : Nat) + i.fst.d.len)], [D.i (P en ws dp (mR (IntKind.i64.wrap (i.snd.nx + 1)) i.snd.pa i.snd.er)).fst.k, D.i (P en ws dp (mR (IntKind.i64.wrap (i.snd.nx + 1)) i.snd.pa i.snd.er)).fst.n, D.s (P en ws dp (mR (IntKind.i64.wrap (i.snd.nx + 1)) i.snd.pa i.snd.er)).fst.s, (P en ws dp (mR (IntKind.i64.wrap (i.snd.nx + 1)) i.snd.pa i.snd.er)).fst.d.sub 0 ((0 : Nat) + (P en ws dp (mR (IntKind.i64.wrap (i.snd.nx + 1)) i.snd.pa i.snd.er)).fst.d.len)]] = j.fst.d.rows /\ (0 : Int) = (0 : Int) /\ (0 : Int) = (0 : Int) /\ Value.string ByteArray.empty = Value.string ByteArray.empty) /\ ((fi == (6 : Int)) = false -> False)))) /\ ((i.snd.er == (0 : Int)) = false -> i.fst.k = (cQA (P en ws dp) (kQ ws sg fi) ws (mR nx pa er)).fst.k /\ i.fst.n = (cQA (P en ws dp) (kQ ws sg fi) ws (mR nx pa er)).fst.n /\ Value.string i.fst.s = Value.string (cQA (P en ws dp) (kQ ws sg fi) ws (mR nx pa er)).fst.s /\ i.fst.d.len = (cQA (P en ws dp) (kQ ws sg fi) ws (mR nx pa er)).fst.d.len /\ ws.rows = ws.rows /\ i.snd.nx = (cQA (P en ws dp) (kQ ws sg fi) ws (mR nx pa er)).snd.nx /\ en = en /\ i.snd.er = (cQA (P en ws dp) (kQ ws sg fi) ws (mR nx pa er)).snd.er /\ i.snd.pa = (cQA (P en ws dp) (kQ ws sg fi) ws (mR nx pa er)).snd.pa /\ i.fst.d.rows = (cQA (P en ws dp) (kQ ws sg fi) ws (mR nx pa er)).fst.d.rows)) /\ ((fi == (6 : Int)) = false -> False)) (by kernel_rfl) ?_
    intro h hf hs hd hl
    have hQ := hPa en ws dp
    obtain ⟨v1, v2, v3⟩ := hQ.up (mR nx pa er) h
    refine ⟨fun hc => ⟨h, hd, hl, ⟨(P en ws dp) (mR nx pa er), ⟨v2, rfl, v3, v1⟩, (by (repeat' (with_reducible apply And.intro)) <;> first | with_reducible rfl | exact True.intro | assumption | (symm; assumption) | rfl)⟩, ?_⟩, fun hc => absurd hf (ne_of_beq_false hc)⟩
    rintro q ⟨h1, h2, h3, h4⟩
    refine ⟨fun h0 => ⟨⟨0, ⟨Nat.zero_le _, trivial⟩, (by (repeat' (with_reducible apply And.intro)) <;> first | with_reducible rfl | exact True.intro | assumption | (symm; assumption) | rfl)⟩, fun i hi => ⟨fun hd1 => ?_, fun hd1 => ?_⟩⟩, fun h0 => ?_⟩
    · have hd1 := of_decide_eq_true hd1
      have hi2 : i < sg.len := by omega
      have hw : IntKind.i64.wrap ((i : Int) + 1) = ((i + 1 : Nat) : Int) := by rw [IntWalk.i64_in _ (by omega)]; omega
      have en0 : (i : Int).toNat = i := Int.toNat_natCast i
      rw [en0]
      refine ⟨⟨by omega, hd1⟩, h1, fun hb => ⟨i + 1, ⟨hi2, trivial⟩, by omega, (if_pos hb).symm, hw, (by (repeat' (with_reducible apply And.intro)) <;> first | with_reducible rfl | exact True.intro | assumption | (symm; assumption) | rfl)⟩, fun hb => ⟨i + 1, ⟨hi2, trivial⟩, by omega, (if_neg (by rw [hb]; decide)).symm, hw, (by (repeat' (with_reducible apply And.intro)) <;> first | with_reducible rfl | exact True.intro | assumption | (symm; assumption) | rfl)⟩⟩
    · have hd1 := of_decide_eq_false hd1
      obtain rfl : i = sg.len := by have := hi.1; omega
      refine ⟨fun ha => ?_, fun ha => ⟨fun hc => ?_, fun hc => absurd hf (ne_of_beq_false hc)⟩⟩
      · have ha := of_decide_eq_true ha
        have hk : kQ ws sg fi q.2 = 0 := if_neg (fun hx => by have := hx.2; omega)
        rw [cQL_end hk] at h2
        rw [← h2]
        (repeat' (with_reducible apply And.intro)) <;> first | with_reducible rfl | exact True.intro | assumption | (symm; assumption) | rfl
      · have ha := of_decide_eq_false ha
        have hr0 : q.2.er = 0 := eq_of_beq h0
        have hx := ix_lt (ws := ws) (sg := sg) (r := q.2) sg.len (by omega)
        have hk : kQ ws sg fi q.2 = fi + ixR ws sg q.2 sg.len := if_pos ⟨hr0, by omega⟩
        have hk0 : kQ ws sg fi q.2 ≠ 0 := by rw [hk]; omega
        have hlt := hx.2.1
        obtain ⟨g1, g2⟩ := gx_ok h1 hlt
        obtain ⟨u1, u2, u3⟩ := hQ.up (gx q.2) g1
        have ew : IntKind.i64.wrap (fi + ixR ws sg q.2 sg.len) = kQ ws sg fi q.2 := by rw [hk, IntWalk.i64_in _ (by omega)]
        rw [nx1 h1 hlt, subAll, subAll, ew]
        have e3 : mR (q.2.nx + 1) q.2.pa q.2.er = gx q.2 := rfl
        rw [e3]
        have l0 : left ws q.2 <= left ws (mR nx pa er) := left_le h4
        have l1 := left_le (ws := ws) u1
        have e5 : (gx q.2).nx = q.2.nx + 1 := rfl
        have hd2 : dpOK ws (gx q.2) dp := ⟨hd.1, by have := hd.2; omega⟩
        refine ⟨g1, hd2, by omega, by omega, by omega, ⟨(X2 (kQ ws sg fi q.2) q.1 ((P en ws dp) (gx q.2)).1, ((P en ws dp) (gx q.2)).2), ⟨u2, (cQL_step hQ kQ_ok q.1 h1 hk0).trans h2, Nat.le_refl _, (by show nx <= ((P en ws dp) (gx q.2)).2.nx; omega)⟩, (by show left ws ((P en ws dp) (gx q.2)).2 < left ws q.2; omega), (by (repeat' (with_reducible apply And.intro)) <;> first | with_reducible rfl | exact True.intro | assumption | (symm; assumption) | rfl)⟩⟩
    · have h0 : q.2.er ≠ 0 := ne_of_beq_false h0
      have hk : kQ ws sg fi q.2 = 0 := if_neg (fun hx => h0 hx.1)
      rw [cQL_end hk] at h2
      rw [← h2]
      (repeat' (with_reducible apply And.intro)) <;> first | with_reducible rfl | exact True.intro | assumption | (symm; assumption) | rfl
  · trivial
def wpr (P : PF) : PF := fun en ws dp r => cQA (P en ws dp) (kQ ws sgM 6) ws r
def wsm (P : PF) : PF := fun en ws dp r => cQA (wpr P en ws dp) (kQ ws sgA 4) ws r
theorem wpr_up {P : PF} (hPa : ∀ en ws dp, PaOK ws (P en ws dp)) (en : Int) (ws : D) (dp : Int) : PaOK ws (wpr P en ws dp) := cQA_up (hPa en ws dp) kQ_ok
theorem wsm_up {P : PF} (hPa : ∀ en ws dp, PaOK ws (P en ws dp)) (en : Int) (ws : D) (dp : Int) : PaOK ws (wsm P en ws dp) := cQA_up (wpr_up hPa en ws dp) kQ_ok
noncomputable def wc4S (P : PF) (m : Nat) : List Dat -> Option (Eff × List Seg) := fun ds => match ds with
  | [.d ws, .i nx, .i en, .i er, .i pa, .i dp, .d sg, .i fi] => some ({ val := .one (.agg [.c (.int .i64 (.sym ((cQA (wpr P en ws dp) (kQ ws sg fi) ws (mR nx pa er)).1).k)), .c (.int .i64 (.sym ((cQA (wpr P en ws dp) (kQ ws sg fi) ws (mR nx pa er)).1).n)), .c (.raw (.string ((cQA (wpr P en ws dp) (kQ ws sg fi) ws (mR nx pa er)).1).s)), .c (.osl 45 0 (.lit 0) (.sym ((cQA (wpr P en ws dp) (kQ ws sg fi) ws (mR nx pa er)).1).d.len))]), vc := [rdOK ws nx, fi = 4, sg.len <= 10, dpOK ws (mR nx pa er) dp, left ws (mR nx pa er) < m], nw := [(0, .orow 45 (cQA (wpr P en ws dp) (kQ ws sg fi) ws (mR nx pa er)).1.d)] }, [.c (.rows 123 ws), .c (.int .i64 (.sym (((cQA (wpr P en ws dp) (kQ ws sg fi) ws (mR nx pa er)).2).nx))), .c (.int .i64 (.sym en)), .c (.int .i64 (.sym (((cQA (wpr P en ws dp) (kQ ws sg fi) ws (mR nx pa er)).2).er))), .c (.int .i64 (.sym (((cQA (wpr P en ws dp) (kQ ws sg fi) ws (mR nx pa er)).2).pa)))])
  | _ => none
noncomputable def wc4C (P : PF) (m : Nat) : Con := conM 71 [.c (.rows 123), .c (.int .i64), .c (.int .i64), .c (.int .i64), .c (.int .i64)] [.sc (.int .i64), .sc (.rows 9), .sc (.int .i64)] (wc4S P m)
theorem wc4_ok {P : PF} {m : Nat} (hP : ConOK Try.prog 92 (wpaC P m)) (hPa : ∀ en ws dp, PaOK ws (P en ws dp)) : ConOK Try.prog 75 (wc4C P m) := by
  refine fn_obM tt_ok mixed Try.func75 rfl (fun _ _ => by kernel_rfl) (A := fun ds => ⟨fun _ => Cons.of [(16, wisC), (75, (wc6C P m))], fun k => match k, ds with | 5, [.d ws, .i nx, .i en, .i er, .i pa, .i dp, .d sg, .i fi] => some { ι := Xp × Rd, pre := fun _ q => rdOK ws q.2.nx /\ (cQL (wpr P en ws dp) (kQ ws sg fi) (left ws q.2) q.1 q.2 = cQA (wpr P en ws dp) (kQ ws sg fi) ws (mR nx pa er)) /\ q.1.d.len <= 2 /\ nx <= q.2.nx, μ := fun q => left ws q.2, st := fun s q => famR s [] [0, 1, 2, 3, 8, 9] [(0, .own 71 ([.c (.rows 123 ws), .c (.int .i64 (.sym ((q.2).nx))), .c (.int .i64 (.sym en)), .c (.int .i64 (.sym ((q.2).er))), .c (.int .i64 (.sym ((q.2).pa)))])), (idOf s 9, .own 45 ([.c (.int .i64 (.sym (q.1).k)), .c (.int .i64 (.sym (q.1).n)), .c (.raw (.string (q.1).s)), .c (.osl 45 (s.nx - 1) (.lit 0) (.sym (q.1).d.len))])), (s.nx - 1, .orow 45 (q.1.d))] [8] } | 8, [.d ws, .i nx, .i en, .i er, .i pa, .i dp, .d sg, .i fi] => some { ι := Nat, pre := fun _ i => i <= sg.len /\ True, μ := fun i => sg.len + 1 - i, st := fun s i => famK s [(10, .one (.sc (.int .i64 (.sym (ixR ws sg (mR (cellZ s 0 1) (cellZ s 0 4) (cellZ s 0 3)) i))))), (11, .one (.sc (.int .i64 (.sym ((i : Nat))))))] [0, 1, 2, 3, 8, 9] } | _, _ => none, fun _ => none⟩) (fun _ _ => (cons_cons wis_ok (cons_cons (wc6_ok hP hPa) cons_nil))) (by kernel_rfl) ?_
  intro ds
  unfold wc4S
  split
  · rename_i ws nx en er pa dp sg fi
    refine kmp (q := rdOK ws nx -> fi = (4 : Int) -> sg.len <= 10 -> dpOK ws (mR nx pa er) dp -> left ws (mR nx pa er) < m -> ((fi == (6 : Int)) = true -> False) /\ ((fi == (6 : Int)) = false -> 0 + 3 <= (D.l [[D.s (ByteArray.mk #[42])], [D.s (ByteArray.mk #[47])], [D.s (ByteArray.mk #[37])]]).len /\ rdOK ws nx /\ (6 : Int) = (6 : Int) /\ ((D.l [[D.s (ByteArray.mk #[42])], [D.s (ByteArray.mk #[47])], [D.s (ByteArray.mk #[37])]]).sub 0 ((0 : Nat) + (3 : Nat))).len <= 10 /\ dpOK ws (mR nx pa er) dp /\ left ws (mR nx pa er) < m /\ (∃ (i : Xp × Rd), (rdOK ws i.snd.nx /\ cQL (wpr P en ws dp) (kQ ws sg fi) (left ws i.snd) i.fst i.snd = cQA (wpr P en ws dp) (kQ ws sg fi) ws (mR nx pa er) /\ i.fst.d.len <= 2 /\ nx <= i.snd.nx) /\ dp = dp /\ sg.rows = sg.rows /\ fi = fi /\ ws.rows = ws.rows /\ (cQA (P en ws dp) (kQ ws ((D.l [[D.s (ByteArray.mk #[42])], [D.s (ByteArray.mk #[47])], [D.s (ByteArray.mk #[37])]]).sub 0 ((0 : Nat) + (3 : Nat))) (6 : Int)) ws (mR nx pa er)).snd.nx = i.snd.nx /\ en = en /\ (cQA (P en ws dp) (kQ ws ((D.l [[D.s (ByteArray.mk #[42])], [D.s (ByteArray.mk #[47])], [D.s (ByteArray.mk #[37])]]).sub 0 ((0 : Nat) + (3 : Nat))) (6 : Int)) ws (mR nx pa er)).snd.er = i.snd.er /\ (cQA (P en ws dp) (kQ ws ((D.l [[D.s (ByteArray.mk #[42])], [D.s (ByteArray.mk #[47])], [D.s (ByteArray.mk #[37])]]).sub 0 ((0 : Nat) + (3 : Nat))) (6 : Int)) ws (mR nx pa er)).snd.pa = i.snd.pa /\ (cQA (P en ws dp) (kQ ws ((D.l [[D.s (ByteArray.mk #[42])], [D.s (ByteArray.mk #[47])], [D.s (ByteArray.mk #[37])]]).sub 0 ((0 : Nat) + (3 : Nat))) (6 : Int)) ws (mR nx pa er)).fst.k = i.fst.k /\ (cQA (P en ws dp) (kQ ws ((D.l [[D.s (ByteArray.mk #[42])], [D.s (ByteArray.mk #[47])], [D.s (ByteArray.mk #[37])]]).sub 0 ((0 : Nat) + (3 : Nat))) (6 : Int)) ws (mR nx pa er)).fst.n = i.fst.n /\ Value.string (cQA (P en ws dp) (kQ ws ((D.l [[D.s (ByteArray.mk #[42])], [D.s (ByteArray.mk #[47])], [D.s (ByteArray.mk #[37])]]).sub 0 ((0 : Nat) + (3 : Nat))) (6 : Int)) ws (mR nx pa er)).fst.s = Value.string i.fst.s /\ (cQA (P en ws dp) (kQ ws ((D.l [[D.s (ByteArray.mk #[42])], [D.s (ByteArray.mk #[47])], [D.s (ByteArray.mk #[37])]]).sub 0 ((0 : Nat) + (3 : Nat))) (6 : Int)) ws (mR nx pa er)).fst.d.len = i.fst.d.len /\ (cQA (P en ws dp) (kQ ws ((D.l [[D.s (ByteArray.mk #[42])], [D.s (ByteArray.mk #[47])], [D.s (ByteArray.mk #[37])]]).sub 0 ((0 : Nat) + (3 : Nat))) (6 : Int)) ws (mR nx pa er)).fst.d.rows = i.fst.d.rows /\ (0 : Int) = (0 : Int) /\ (0 : Int) = (0 : Int) /\ Value.string ByteArray.empty = Value.string ByteArray.empty) /\ ∀ (i : Xp × Rd), rdOK ws i.snd.nx /\ cQL (wpr P en ws dp) (kQ ws sg fi) (left ws i.snd) i.fst i.snd = cQA (wpr P en ws dp) (kQ ws sg fi) ws (mR nx pa er) /\ i.fst.d.len <= 2 /\ nx <= i.snd.nx -> ((i.snd.er == (0 : Int)) = true -> (∃ (i_1 : Nat), (i_1 <= sg.len /\ True) /\ (-1 : Int) = ixR ws sg i.snd i_1 /\ (0 : Int) = (↑i_1 : Int) /\ dp = dp /\ sg.rows = sg.rows /\ fi = fi /\ ws.rows = ws.rows /\ i.snd.nx = i.snd.nx /\ en = en /\ i.snd.er = i.snd.er /\ i.snd.pa = i.snd.pa /\ i.fst.k = i.fst.k /\ i.fst.n = i.fst.n /\ Value.string i.fst.s = Value.string i.fst.s /\ i.fst.d.len = i.fst.d.len /\ i.fst.d.rows = i.fst.d.rows /\ (0 : Int) = (0 : Int) /\ (0 : Int) = (0 : Int) /\ Value.string ByteArray.empty = Value.string ByteArray.empty) /\ ∀ (i_1 : Nat), i_1 <= sg.len /\ True -> (decide ((↑i_1 : Int) < (↑sg.len : Int)) = true -> ((0 : Int) <= (↑i_1 : Int) /\ (↑i_1 : Int) < (↑sg.len : Int)) /\ rdOK ws i.snd.nx /\ (isB ws (sg.el (↑i_1 : Int).toNat (0 : Nat)).toS i.snd = true -> ∃ (j : Nat), (j <= sg.len /\ True) /\ sg.len + 1 - j < sg.len + 1 - i_1 /\ (↑i_1 : Int) = ixR ws sg i.snd j /\ IntKind.i64.wrap ((↑i_1 : Int) + 1) = (↑j : Int) /\ dp = dp /\ sg.rows = sg.rows /\ fi = fi /\ ws.rows = ws.rows /\ i.snd.nx = i.snd.nx /\ en = en /\ i.snd.er = i.snd.er /\ i.snd.pa = i.snd.pa /\ i.fst.k = i.fst.k /\ i.fst.n = i.fst.n /\ Value.string i.fst.s = Value.string i.fst.s /\ i.fst.d.len = i.fst.d.len /\ i.fst.d.rows = i.fst.d.rows /\ (0 : Int) = (0 : Int) /\ (0 : Int) = (0 : Int) /\ Value.string ByteArray.empty = Value.string ByteArray.empty) /\ (isB ws (sg.el (↑i_1 : Int).toNat (0 : Nat)).toS i.snd = false -> ∃ (j : Nat), (j <= sg.len /\ True) /\ sg.len + 1 - j < sg.len + 1 - i_1 /\ ixR ws sg i.snd i_1 = ixR ws sg i.snd j /\ IntKind.i64.wrap ((↑i_1 : Int) + 1) = (↑j : Int) /\ dp = dp /\ sg.rows = sg.rows /\ fi = fi /\ ws.rows = ws.rows /\ i.snd.nx = i.snd.nx /\ en = en /\ i.snd.er = i.snd.er /\ i.snd.pa = i.snd.pa /\ i.fst.k = i.fst.k /\ i.fst.n = i.fst.n /\ Value.string i.fst.s = Value.string i.fst.s /\ i.fst.d.len = i.fst.d.len /\ i.fst.d.rows = i.fst.d.rows /\ (0 : Int) = (0 : Int) /\ (0 : Int) = (0 : Int) /\ Value.string ByteArray.empty = Value.string ByteArray.empty)) /\ (decide ((↑i_1 : Int) < (↑sg.len : Int)) = false -> (decide (ixR ws sg i.snd i_1 < (0 : Int)) = true -> i.fst.k = (cQA (wpr P en ws dp) (kQ ws sg fi) ws (mR nx pa er)).fst.k /\ i.fst.n = (cQA (wpr P en ws dp) (kQ ws sg fi) ws (mR nx pa er)).fst.n /\ Value.string i.fst.s = Value.string (cQA (wpr P en ws dp) (kQ ws sg fi) ws (mR nx pa er)).fst.s /\ i.fst.d.len = (cQA (wpr P en ws dp) (kQ ws sg fi) ws (mR nx pa er)).fst.d.len /\ ws.rows = ws.rows /\ i.snd.nx = (cQA (wpr P en ws dp) (kQ ws sg fi) ws (mR nx pa er)).snd.nx /\ en = en /\ i.snd.er = (cQA (wpr P en ws dp) (kQ ws sg fi) ws (mR nx pa er)).snd.er /\ i.snd.pa = (cQA (wpr P en ws dp) (kQ ws sg fi) ws (mR nx pa er)).snd.pa /\ i.fst.d.rows = (cQA (wpr P en ws dp) (kQ ws sg fi) ws (mR nx pa er)).fst.d.rows) /\ (decide (ixR ws sg i.snd i_1 < (0 : Int)) = false -> ((fi == (6 : Int)) = true -> False) /\ ((fi == (6 : Int)) = false -> 0 + 3 <= (D.l [[D.s (ByteArray.mk #[42])], [D.s (ByteArray.mk #[47])], [D.s (ByteArray.mk #[37])]]).len /\ rdOK ws (IntKind.i64.wrap (i.snd.nx + 1)) /\ (6 : Int) = (6 : Int) /\ ((D.l [[D.s (ByteArray.mk #[42])], [D.s (ByteArray.mk #[47])], [D.s (ByteArray.mk #[37])]]).sub 0 ((0 : Nat) + (3 : Nat))).len <= 10 /\ dpOK ws (mR (IntKind.i64.wrap (i.snd.nx + 1)) i.snd.pa i.snd.er) dp /\ left ws (mR (IntKind.i64.wrap (i.snd.nx + 1)) i.snd.pa i.snd.er) < m /\ 0 + i.fst.d.len <= i.fst.d.len /\ 0 + (cQA (P en ws dp) (kQ ws ((D.l [[D.s (ByteArray.mk #[42])], [D.s (ByteArray.mk #[47])], [D.s (ByteArray.mk #[37])]]).sub 0 ((0 : Nat) + (3 : Nat))) (6 : Int)) ws (mR (IntKind.i64.wrap (i.snd.nx + 1)) i.snd.pa i.snd.er)).fst.d.len <= (cQA (P en ws dp) (kQ ws ((D.l [[D.s (ByteArray.mk #[42])], [D.s (ByteArray.mk #[47])], [D.s (ByteArray.mk #[37])]]).sub 0 ((0 : Nat) + (3 : Nat))) (6 : Int)) ws (mR (IntKind.i64.wrap (i.snd.nx + 1)) i.snd.pa i.snd.er)).fst.d.len /\ ∃ (j : Xp × Rd), (rdOK ws j.snd.nx /\ cQL (wpr P en ws dp) (kQ ws sg fi) (left ws j.snd) j.fst j.snd = cQA (wpr P en ws dp) (kQ ws sg fi) ws (mR nx pa er) /\ j.fst.d.len <= 2 /\ nx <= j.snd.nx) /\ left ws j.snd < left ws i.snd /\ dp = dp /\ sg.rows = sg.rows /\ fi = fi /\ ws.rows = ws.rows /\ (cQA (P en ws dp) (kQ ws ((D.l [[D.s (ByteArray.mk #[42])], [D.s (ByteArray.mk #[47])], [D.s (ByteArray.mk #[37])]]).sub 0 ((0 : Nat) + (3 : Nat))) (6 : Int)) ws (mR (IntKind.i64.wrap (i.snd.nx + 1)) i.snd.pa i.snd.er)).snd.nx = j.snd.nx /\ en = en /\ (cQA (P en ws dp) (kQ ws ((D.l [[D.s (ByteArray.mk #[42])], [D.s (ByteArray.mk #[47])], [D.s (ByteArray.mk #[37])]]).sub 0 ((0 : Nat) + (3 : Nat))) (6 : Int)) ws (mR (IntKind.i64.wrap (i.snd.nx + 1)) i.snd.pa i.snd.er)).snd.er = j.snd.er /\ (cQA (P en ws dp) (kQ ws ((D.l [[D.s (ByteArray.mk #[42])], [D.s (ByteArray.mk #[47])], [D.s (ByteArray.mk #[37])]]).sub 0 ((0 : Nat) + (3 : Nat))) (6 : Int)) ws (mR (IntKind.i64.wrap (i.snd.nx + 1)) i.snd.pa i.snd.er)).snd.pa = j.snd.pa /\ IntKind.i64.wrap (fi + ixR ws sg i.snd i_1) = j.fst.k /\ (0 : Int) = j.fst.n /\ Value.string ByteArray.empty = Value.string j.fst.s /\ 2 = j.fst.d.len /\ [[D.i i.fst.k, D.i i.fst.n, D.s i.fst.s, i.fst.d.sub 0 ((0 : Nat) + i.fst.d.len)], [D.i (cQA (P en ws dp) (kQ ws ((D.l [[D.s (ByteArray.mk #[42])], [D.s (ByteArray.mk #[47])], [D.s (ByteArray.mk #[37])]]).sub 0 ((0 : Nat) + (3 : Nat))) (6 : Int)) ws (mR (IntKind.i64.wrap (i.snd.nx + 1)) i.snd.pa i.snd.er)).fst.k, D.i (cQA (P en ws dp) (kQ ws ((D.l [[D.s (ByteArray.mk #[42])], [D.s (ByteArray.mk #[47])], [D.s (ByteArray.mk #[37])]]).sub 0 ((0 : Nat) + (3 : Nat))) (6 : Int)) ws (mR (IntKind.i64.wrap (i.snd.nx + 1)) i.snd.pa i.snd.er)).fst.n, D.s (cQA (P en ws dp) (kQ ws ((D.l [[D.s (ByteArray.mk #[42])], [D.s (ByteArray.mk #[47])], [D.s (ByteArray.mk #[37])]]).sub 0 ((0 : Nat) + (3 : Nat))) (6 : Int)) ws (mR (IntKind.i64.wrap (i.snd.nx + 1)) i.snd.pa i.snd.er)).fst.s, (cQA (P en ws dp) (kQ ws ((D.l [[D.s (ByteArray.mk #[42])], [D.s (ByteArray.mk #[47])], [D.s (ByteArray.mk #[37])]]).sub 0 ((0 : Nat) + (3 : Nat))) (6 : Int)) ws (mR (IntKind.i64.wrap (i.snd.nx + 1)) i.snd.pa i.snd.er)).fst.d.sub 0 ((0 : Nat) + (cQA (P en ws dp) (kQ ws ((D.l [[D.s (ByteArray.mk #[42])], [D.s (ByteArray.mk #[47])], [D.s (ByteArray.mk #[37])]]).sub 0 ((0 : Nat) + (3 : Nat))) (6 : Int)) ws (mR (IntKind.i64.wrap (i.snd.nx + 1)) i.snd.pa i.snd.er)).fst.d.len)]] = j.fst.d.rows /\ (0 : Int) = (0 : Int) /\ (0 : Int) = (0 : Int) /\ Value.string ByteArray.empty = Value.string ByteArray.empty)))) /\ ((i.snd.er == (0 : Int)) = false -> i.fst.k = (cQA (wpr P en ws dp) (kQ ws sg fi) ws (mR nx pa er)).fst.k /\ i.fst.n = (cQA (wpr P en ws dp) (kQ ws sg fi) ws (mR nx pa er)).fst.n /\ Value.string i.fst.s = Value.string (cQA (wpr P en ws dp) (kQ ws sg fi) ws (mR nx pa er)).fst.s /\ i.fst.d.len = (cQA (wpr P en ws dp) (kQ ws sg fi) ws (mR nx pa er)).fst.d.len /\ ws.rows = ws.rows /\ i.snd.nx = (cQA (wpr P en ws dp) (kQ ws sg fi) ws (mR nx pa er)).snd.nx /\ en = en /\ i.snd.er = (cQA (wpr P en ws dp) (kQ ws sg fi) ws (mR nx pa er)).snd.er /\ i.snd.pa = (cQA (wpr P en ws dp) (kQ ws sg fi) ws (mR nx pa er)).snd.pa /\ i.fst.d.rows = (cQA (wpr P en ws dp) (kQ ws sg fi) ws (mR nx pa er)).fst.d.rows))) (by kernel_rfl) ?_
    intro h hf hs hd hl
    have hQ := wpr_up hPa en ws dp
    obtain ⟨v1, v2, v3⟩ := hQ.up (mR nx pa er) h
    refine ⟨fun hc => absurd (eq_of_beq hc) (by rw [hf]; decide), fun hc => ⟨(by decide), h, rfl, (by decide), hd, hl, ⟨(wpr P en ws dp) (mR nx pa er), ⟨v2, rfl, v3, v1⟩, (by (repeat' (with_reducible apply And.intro)) <;> first | with_reducible rfl | exact True.intro | assumption | (symm; assumption) | rfl)⟩, ?_⟩⟩
    rintro q ⟨h1, h2, h3, h4⟩
    refine ⟨fun h0 => ⟨⟨0, ⟨Nat.zero_le _, trivial⟩, (by (repeat' (with_reducible apply And.intro)) <;> first | with_reducible rfl | exact True.intro | assumption | (symm; assumption) | rfl)⟩, fun i hi => ⟨fun hd1 => ?_, fun hd1 => ?_⟩⟩, fun h0 => ?_⟩
    · have hd1 := of_decide_eq_true hd1
      have hi2 : i < sg.len := by omega
      have hw : IntKind.i64.wrap ((i : Int) + 1) = ((i + 1 : Nat) : Int) := by rw [IntWalk.i64_in _ (by omega)]; omega
      have en0 : (i : Int).toNat = i := Int.toNat_natCast i
      rw [en0]
      refine ⟨⟨by omega, hd1⟩, h1, fun hb => ⟨i + 1, ⟨hi2, trivial⟩, by omega, (if_pos hb).symm, hw, (by (repeat' (with_reducible apply And.intro)) <;> first | with_reducible rfl | exact True.intro | assumption | (symm; assumption) | rfl)⟩, fun hb => ⟨i + 1, ⟨hi2, trivial⟩, by omega, (if_neg (by rw [hb]; decide)).symm, hw, (by (repeat' (with_reducible apply And.intro)) <;> first | with_reducible rfl | exact True.intro | assumption | (symm; assumption) | rfl)⟩⟩
    · have hd1 := of_decide_eq_false hd1
      obtain rfl : i = sg.len := by have := hi.1; omega
      refine ⟨fun ha => ?_, fun ha => ⟨fun hc => absurd (eq_of_beq hc) (by rw [hf]; decide), fun hc => ?_⟩⟩
      · have ha := of_decide_eq_true ha
        have hk : kQ ws sg fi q.2 = 0 := if_neg (fun hx => by have := hx.2; omega)
        rw [cQL_end hk] at h2
        rw [← h2]
        (repeat' (with_reducible apply And.intro)) <;> first | with_reducible rfl | exact True.intro | assumption | (symm; assumption) | rfl
      · have ha := of_decide_eq_false ha
        have hr0 : q.2.er = 0 := eq_of_beq h0
        have hx := ix_lt (ws := ws) (sg := sg) (r := q.2) sg.len (by omega)
        have hk : kQ ws sg fi q.2 = fi + ixR ws sg q.2 sg.len := if_pos ⟨hr0, by omega⟩
        have hk0 : kQ ws sg fi q.2 ≠ 0 := by rw [hk]; omega
        have hlt := hx.2.1
        obtain ⟨g1, g2⟩ := gx_ok h1 hlt
        obtain ⟨u1, u2, u3⟩ := hQ.up (gx q.2) g1
        have ew : IntKind.i64.wrap (fi + ixR ws sg q.2 sg.len) = kQ ws sg fi q.2 := by rw [hk, IntWalk.i64_in _ (by omega)]
        rw [nx1 h1 hlt, subAll, subAll, ew]
        have e3 : mR (q.2.nx + 1) q.2.pa q.2.er = gx q.2 := rfl
        rw [e3]
        have l0 : left ws q.2 <= left ws (mR nx pa er) := left_le h4
        have l1 := left_le (ws := ws) u1
        have e5 : (gx q.2).nx = q.2.nx + 1 := rfl
        have hd2 : dpOK ws (gx q.2) dp := ⟨hd.1, by have := hd.2; omega⟩
        refine ⟨(by decide), g1, rfl, (by decide), hd2, by omega, by omega, by omega, ⟨(X2 (kQ ws sg fi q.2) q.1 ((wpr P en ws dp) (gx q.2)).1, ((wpr P en ws dp) (gx q.2)).2), ⟨u2, (cQL_step hQ kQ_ok q.1 h1 hk0).trans h2, Nat.le_refl _, (by show nx <= ((wpr P en ws dp) (gx q.2)).2.nx; omega)⟩, (by show left ws ((wpr P en ws dp) (gx q.2)).2 < left ws q.2; omega), (by (repeat' (with_reducible apply And.intro)) <;> first | with_reducible rfl | exact True.intro | assumption | (symm; assumption) | rfl)⟩⟩
    · have h0 : q.2.er ≠ 0 := ne_of_beq_false h0
      have hk : kQ ws sg fi q.2 = 0 := if_neg (fun hx => h0 hx.1)
      rw [cQL_end hk] at h2
      rw [← h2]
      (repeat' (with_reducible apply And.intro)) <;> first | with_reducible rfl | exact True.intro | assumption | (symm; assumption) | rfl
  · trivial
end Go.Proofs.Ytbhbjhejkamlnaa.Sx.Z
namespace Go.Proofs.Ytbhbjhejkamlnaa.Sx.Z
open Go.RowKit
def rfB (P : PF) : PF := fun en ws dp r =>
  if isB ws miB r = true ∨ isB ws opB r = true then
    (if 24 <= dp then (X00, ffR ws en 6 r)
     else if isB ws miB r = true then (⟨3, 0, ByteArray.empty, .l [(P en ws (dp + 1) (gx r)).1.row]⟩, (P en ws (dp + 1) (gx r)).2)
     else ((wsm P en ws (dp + 1) (gx r)).1, muR ws en clB (wsm P en ws (dp + 1) (gx r)).2))
  else if kiB ws 2 r = true then (⟨1, wnN ws r, ByteArray.empty, .l []⟩, wnR ws en 2 r)
  else (⟨2, 0, wnS ws r, .l []⟩, wnR ws en 1 r)
theorem ki_yes (ws : D) (k nx pa er : Int) : (er == 0 && decide (nx < (ws.len : Int)) && (ws.el nx.toNat (0 + 0)).toI == k) = kiB ws k (mR nx pa er) := by
  by_cases hl : nx < ws.len
  · rw [kiB_eq, (pk_in hl).2]
  · rw [kiB_eq]
    simp only [decide_eq_false hl, Bool.and_false, Bool.false_and]
theorem ff_up {ws : D} (en e : Int) {r : Rd} (h : rdOK ws r.nx) : rdOK ws (ffR ws en e r).nx /\ r.nx <= (ffR ws en e r).nx := by
  unfold ffR
  split
  · exact ⟨h, Int.le_refl _⟩
  · exact ⟨h, Int.le_refl _⟩
theorem mu_up {ws : D} (en : Int) {t : ByteArray} {r : Rd} (h : rdOK ws r.nx) : rdOK ws (muR ws en t r).nx /\ r.nx <= (muR ws en t r).nx := by
  unfold muR
  split
  · rename_i hb; exact gx_up h (isB_lt hb).2
  · exact ff_up en 5 h
theorem wn_up {ws : D} (en k : Int) {r : Rd} (h : rdOK ws r.nx) : rdOK ws (wnR ws en k r).nx /\ r.nx <= (wnR ws en k r).nx := by
  unfold wnR
  split
  · rename_i hb; exact gx_up h (kiB_lt hb).2.1
  · exact ff_up en 5 h
theorem rfB_up {P : PF} (hPa : ∀ en ws dp, PaOK ws (P en ws dp)) (en : Int) (ws : D) (dp : Int) : PaOK ws (rfB P en ws dp) := ⟨fun r h => by
  unfold rfB
  split
  · rename_i hb
    have hl : r.nx < ws.len := by rcases hb with hb | hb <;> exact (isB_lt hb).2
    have g := gx_up h hl
    split
    · have := ff_up en 6 h
      exact ⟨this.2, this.1, Nat.zero_le _⟩
    · split
      · obtain ⟨u1, u2, u3⟩ := (hPa en ws (dp + 1)).up _ g.1
        exact ⟨Int.le_trans g.2 u1, u2, (show 1 <= 2 by decide)⟩
      · obtain ⟨u1, u2, u3⟩ := (wsm_up hPa en ws (dp + 1)).up _ g.1
        have m := mu_up en (t := clB) u2
        exact ⟨Int.le_trans g.2 (Int.le_trans u1 m.2), m.1, u3⟩
  · split
    · have := wn_up en 2 h
      exact ⟨this.2, this.1, Nat.zero_le _⟩
    · have := wn_up en 1 h
      exact ⟨this.2, this.1, Nat.zero_le _⟩⟩
noncomputable def wiqS : FSpec := fun ds _ => match ds with
  | [.d ws, .i nx, .i en, .i er, .i pa, .s t] => some { val := .one (.sc (.bool (.sym (isB ws t (mR nx pa er))))), vc := [rdOK ws nx] }
  | _ => none
noncomputable def wiqC : Con := con [.ptr [.c (.rows 123), .c (.int .i64), .c (.int .i64), .c (.int .i64), .c (.int .i64)], .sc .str] wiqS
theorem wiq_ok : ConOK Try.prog 16 wiqC := by
  refine fn_ob tt_ok mixed Try.func16 rfl (fun _ _ => by kernel_rfl) (A := fun ds => ⟨fun _ => Cons.of [], fun _ => none, fun _ => none⟩) (fun _ _ => cons_nil) (by kernel_rfl) ?_
  intro ds fr
  unfold wiqS
  split
  · rename_i ws nx en er pa t
    refine kmp (q := rdOK ws nx -> ((er == (0 : Int) && decide (nx < (↑ws.len : Int))) = true /\ True -> (0 : Int) <= nx /\ nx < (↑ws.len : Int)) /\ ((er == (0 : Int) && decide (nx < (↑ws.len : Int)) && (ws.el nx.toNat ((0 : Nat) + (1 : Nat))).toS.toList == t.toList) = true /\ True -> (0 : Int) <= nx /\ nx < (↑ws.len : Int)) /\ (er == (0 : Int) && decide (nx < (↑ws.len : Int)) && (ws.el nx.toNat ((0 : Nat) + (1 : Nat))).toS.toList == t.toList && decide ((ws.el nx.toNat ((0 : Nat) + (0 : Nat))).toI ≥ (3 : Int))) = isB ws t (mR nx pa er)) (by kernel_rfl) ?_
    intro h
    refine ⟨fun hc => ⟨h.1, ?_⟩, fun hc => ⟨h.1, ?_⟩, ?_⟩
    · have := hc.1
      simp only [Bool.and_eq_true] at this
      exact of_decide_eq_true this.2
    · have := hc.1
      simp only [Bool.and_eq_true] at this
      exact of_decide_eq_true this.1.2
    · by_cases hl : nx < ws.len
      · rw [isB_eq, (pk_in hl).1, (pk_in hl).2]
      · rw [isB_eq]
        simp only [decide_eq_false hl, Bool.and_false, Bool.false_and]
  · trivial
noncomputable def wexS (P : PF) (m : Nat) : List Dat -> Option (Eff × List Seg) := fun ds => match ds with
  | [.d ws, .i nx, .i en, .i er, .i pa, .i dp] => some ({ val := .one (.agg [.c (.int .i64 (.sym ((wsm P en ws dp (mR nx pa er)).1).k)), .c (.int .i64 (.sym ((wsm P en ws dp (mR nx pa er)).1).n)), .c (.raw (.string ((wsm P en ws dp (mR nx pa er)).1).s)), .c (.osl 45 0 (.lit 0) (.sym ((wsm P en ws dp (mR nx pa er)).1).d.len))]), vc := [rdOK ws nx, dpOK ws (mR nx pa er) dp, left ws (mR nx pa er) < m], nw := [(0, .orow 45 (wsm P en ws dp (mR nx pa er)).1.d)] }, [.c (.rows 123 ws), .c (.int .i64 (.sym (((wsm P en ws dp (mR nx pa er)).2).nx))), .c (.int .i64 (.sym en)), .c (.int .i64 (.sym (((wsm P en ws dp (mR nx pa er)).2).er))), .c (.int .i64 (.sym (((wsm P en ws dp (mR nx pa er)).2).pa)))])
  | _ => none
noncomputable def wexC (P : PF) (m : Nat) : Con := conM 71 [.c (.rows 123), .c (.int .i64), .c (.int .i64), .c (.int .i64), .c (.int .i64)] [.sc (.int .i64)] (wexS P m)
theorem wex_ok {P : PF} {m : Nat} (hP : ConOK Try.prog 92 (wpaC P m)) (hPa : ∀ en ws dp, PaOK ws (P en ws dp)) : ConOK Try.prog 48 (wexC P m) := by
  refine fn_obM tt_ok mixed Try.func48 rfl (fun _ _ => by kernel_rfl) (A := fun ds => ⟨fun _ => Cons.of [(75, (wc4C P m))], fun _ => none, fun _ => none⟩) (fun _ _ => (cons_cons (wc4_ok hP hPa) cons_nil)) (by kernel_rfl) ?_
  intro ds
  unfold wexS
  split
  · rename_i ws nx en er pa dp
    refine kmp (q := rdOK ws nx -> dpOK ws (mR nx pa er) dp -> left ws (mR nx pa er) < m -> 0 + 2 <= (D.l [[D.s (ByteArray.mk #[43])], [D.s miB]]).len /\ rdOK ws nx /\ (4 : Int) = (4 : Int) /\ ((D.l [[D.s (ByteArray.mk #[43])], [D.s miB]]).sub 0 ((0 : Nat) + (2 : Nat))).len <= 10 /\ dpOK ws (mR nx pa er) dp /\ left ws (mR nx pa er) < m /\ (cQA (wpr P en ws dp) (kQ ws ((D.l [[D.s (ByteArray.mk #[43])], [D.s miB]]).sub 0 ((0 : Nat) + (2 : Nat))) (4 : Int)) ws (mR nx pa er)).fst.k = (wsm P en ws dp (mR nx pa er)).fst.k /\ (cQA (wpr P en ws dp) (kQ ws ((D.l [[D.s (ByteArray.mk #[43])], [D.s miB]]).sub 0 ((0 : Nat) + (2 : Nat))) (4 : Int)) ws (mR nx pa er)).fst.n = (wsm P en ws dp (mR nx pa er)).fst.n /\ Value.string (cQA (wpr P en ws dp) (kQ ws ((D.l [[D.s (ByteArray.mk #[43])], [D.s miB]]).sub 0 ((0 : Nat) + (2 : Nat))) (4 : Int)) ws (mR nx pa er)).fst.s = Value.string (wsm P en ws dp (mR nx pa er)).fst.s /\ (cQA (wpr P en ws dp) (kQ ws ((D.l [[D.s (ByteArray.mk #[43])], [D.s miB]]).sub 0 ((0 : Nat) + (2 : Nat))) (4 : Int)) ws (mR nx pa er)).fst.d.len = (wsm P en ws dp (mR nx pa er)).fst.d.len /\ ws.rows = ws.rows /\ (cQA (wpr P en ws dp) (kQ ws ((D.l [[D.s (ByteArray.mk #[43])], [D.s miB]]).sub 0 ((0 : Nat) + (2 : Nat))) (4 : Int)) ws (mR nx pa er)).snd.nx = (wsm P en ws dp (mR nx pa er)).snd.nx /\ en = en /\ (cQA (wpr P en ws dp) (kQ ws ((D.l [[D.s (ByteArray.mk #[43])], [D.s miB]]).sub 0 ((0 : Nat) + (2 : Nat))) (4 : Int)) ws (mR nx pa er)).snd.er = (wsm P en ws dp (mR nx pa er)).snd.er /\ (cQA (wpr P en ws dp) (kQ ws ((D.l [[D.s (ByteArray.mk #[43])], [D.s miB]]).sub 0 ((0 : Nat) + (2 : Nat))) (4 : Int)) ws (mR nx pa er)).snd.pa = (wsm P en ws dp (mR nx pa er)).snd.pa /\ (cQA (wpr P en ws dp) (kQ ws ((D.l [[D.s (ByteArray.mk #[43])], [D.s miB]]).sub 0 ((0 : Nat) + (2 : Nat))) (4 : Int)) ws (mR nx pa er)).fst.d.rows = (wsm P en ws dp (mR nx pa er)).fst.d.rows) (by kernel_rfl) ?_
    intro h hd hl
    refine ⟨(by decide), h, rfl, (by decide), hd, hl, ?_⟩
    (repeat' (with_reducible apply And.intro)) <;> first | with_reducible rfl | exact True.intro | assumption | (symm; assumption) | rfl
  · trivial
noncomputable def wfcS (P : PF) (m : Nat) : List Dat -> Option (Eff × List Seg) := fun ds => match ds with
  | [.d ws, .i nx, .i en, .i er, .i pa, .i dp] => some ({ val := .one (.agg [.c (.int .i64 (.sym ((rfB P en ws dp (mR nx pa er)).1).k)), .c (.int .i64 (.sym ((rfB P en ws dp (mR nx pa er)).1).n)), .c (.raw (.string ((rfB P en ws dp (mR nx pa er)).1).s)), .c (.osl 45 0 (.lit 0) (.sym ((rfB P en ws dp (mR nx pa er)).1).d.len))]), vc := [rdOK ws nx, dpOK ws (mR nx pa er) dp, left ws (mR nx pa er) < m + 1], nw := [(0, .orow 45 (rfB P en ws dp (mR nx pa er)).1.d)] }, [.c (.rows 123 ws), .c (.int .i64 (.sym (((rfB P en ws dp (mR nx pa er)).2).nx))), .c (.int .i64 (.sym en)), .c (.int .i64 (.sym (((rfB P en ws dp (mR nx pa er)).2).er))), .c (.int .i64 (.sym (((rfB P en ws dp (mR nx pa er)).2).pa)))])
  | _ => none
noncomputable def wfcC (P : PF) (m : Nat) : Con := conM 71 [.c (.rows 123), .c (.int .i64), .c (.int .i64), .c (.int .i64), .c (.int .i64)] [.sc (.int .i64)] (wfcS P m)
theorem wfc_ok {P : PF} {m : Nat} (hP : ConOK Try.prog 92 (wpaC P m)) (hPa : ∀ en ws dp, PaOK ws (P en ws dp)) : ConOK Try.prog 92 (wfcC P m) := by
  refine fn_obM tt_ok mixed Try.func92 rfl (fun _ _ => by kernel_rfl) (A := fun ds => ⟨fun _ => Cons.of [(16, wiqC), (22, wfaC), (18, wnaC), (20, wnuC), (19, wmuC), (92, (wpaC P m)), (48, (wexC P m))], fun _ => none, fun _ => none⟩) (fun _ _ => (cons_cons wiq_ok (cons_cons wfa_ok (cons_cons wna_ok (cons_cons wnu_ok (cons_cons wmu_ok (cons_cons hP (cons_cons (wex_ok hP hPa) cons_nil)))))))) (by kernel_rfl) ?_
  intro ds
  unfold wfcS
  split
  · rename_i ws nx en er pa dp
    refine kmp (q := rdOK ws nx -> dpOK ws (mR nx pa er) dp -> left ws (mR nx pa er) < m + 1 -> rdOK ws nx /\ (isB ws miB (mR nx pa er) = false /\ True -> rdOK ws nx) /\ ((isB ws miB (mR nx pa er) || isB ws opB (mR nx pa er)) = true -> (decide (dp ≥ (24 : Int)) = true -> rdOK ws nx /\ (0 : Int) = (rfB P en ws dp (mR nx pa er)).fst.k /\ (0 : Int) = (rfB P en ws dp (mR nx pa er)).fst.n /\ Value.string ByteArray.empty = Value.string (rfB P en ws dp (mR nx pa er)).fst.s /\ (rfB P en ws dp (mR nx pa er)).fst.d.len = 0 /\ ws.rows = ws.rows /\ (ffR ws en (6 : Int) (mR nx pa er)).nx = (rfB P en ws dp (mR nx pa er)).snd.nx /\ en = en /\ (ffR ws en (6 : Int) (mR nx pa er)).er = (rfB P en ws dp (mR nx pa er)).snd.er /\ (ffR ws en (6 : Int) (mR nx pa er)).pa = (rfB P en ws dp (mR nx pa er)).snd.pa /\ (rfB P en ws dp (mR nx pa er)).fst.d.rows = []) /\ (decide (dp ≥ (24 : Int)) = false -> rdOK ws nx /\ (isB ws miB (mR nx pa er) = true -> rdOK ws (IntKind.i64.wrap (nx + 1)) /\ dpOK ws (mR (IntKind.i64.wrap (nx + 1)) pa er) (IntKind.i64.wrap (dp + 1)) /\ left ws (mR (IntKind.i64.wrap (nx + 1)) pa er) < m /\ 0 + (P en ws (IntKind.i64.wrap (dp + 1)) (mR (IntKind.i64.wrap (nx + 1)) pa er)).fst.d.len <= (P en ws (IntKind.i64.wrap (dp + 1)) (mR (IntKind.i64.wrap (nx + 1)) pa er)).fst.d.len /\ (3 : Int) = (rfB P en ws dp (mR nx pa er)).fst.k /\ (0 : Int) = (rfB P en ws dp (mR nx pa er)).fst.n /\ Value.string ByteArray.empty = Value.string (rfB P en ws dp (mR nx pa er)).fst.s /\ 1 = (rfB P en ws dp (mR nx pa er)).fst.d.len /\ ws.rows = ws.rows /\ (P en ws (IntKind.i64.wrap (dp + 1)) (mR (IntKind.i64.wrap (nx + 1)) pa er)).snd.nx = (rfB P en ws dp (mR nx pa er)).snd.nx /\ en = en /\ (P en ws (IntKind.i64.wrap (dp + 1)) (mR (IntKind.i64.wrap (nx + 1)) pa er)).snd.er = (rfB P en ws dp (mR nx pa er)).snd.er /\ (P en ws (IntKind.i64.wrap (dp + 1)) (mR (IntKind.i64.wrap (nx + 1)) pa er)).snd.pa = (rfB P en ws dp (mR nx pa er)).snd.pa /\ [[D.i (P en ws (IntKind.i64.wrap (dp + 1)) (mR (IntKind.i64.wrap (nx + 1)) pa er)).fst.k, D.i (P en ws (IntKind.i64.wrap (dp + 1)) (mR (IntKind.i64.wrap (nx + 1)) pa er)).fst.n, D.s (P en ws (IntKind.i64.wrap (dp + 1)) (mR (IntKind.i64.wrap (nx + 1)) pa er)).fst.s, (P en ws (IntKind.i64.wrap (dp + 1)) (mR (IntKind.i64.wrap (nx + 1)) pa er)).fst.d.sub 0 ((0 : Nat) + (P en ws (IntKind.i64.wrap (dp + 1)) (mR (IntKind.i64.wrap (nx + 1)) pa er)).fst.d.len)]] = (rfB P en ws dp (mR nx pa er)).fst.d.rows) /\ (isB ws miB (mR nx pa er) = false -> rdOK ws (IntKind.i64.wrap (nx + 1)) /\ dpOK ws (mR (IntKind.i64.wrap (nx + 1)) pa er) (IntKind.i64.wrap (dp + 1)) /\ left ws (mR (IntKind.i64.wrap (nx + 1)) pa er) < m /\ rdOK ws (wsm P en ws (IntKind.i64.wrap (dp + 1)) (mR (IntKind.i64.wrap (nx + 1)) pa er)).snd.nx /\ (wsm P en ws (IntKind.i64.wrap (dp + 1)) (mR (IntKind.i64.wrap (nx + 1)) pa er)).fst.k = (rfB P en ws dp (mR nx pa er)).fst.k /\ (wsm P en ws (IntKind.i64.wrap (dp + 1)) (mR (IntKind.i64.wrap (nx + 1)) pa er)).fst.n = (rfB P en ws dp (mR nx pa er)).fst.n /\ Value.string (wsm P en ws (IntKind.i64.wrap (dp + 1)) (mR (IntKind.i64.wrap (nx + 1)) pa er)).fst.s = Value.string (rfB P en ws dp (mR nx pa er)).fst.s /\ (wsm P en ws (IntKind.i64.wrap (dp + 1)) (mR (IntKind.i64.wrap (nx + 1)) pa er)).fst.d.len = (rfB P en ws dp (mR nx pa er)).fst.d.len /\ ws.rows = ws.rows /\ (muR ws en clB (wsm P en ws (IntKind.i64.wrap (dp + 1)) (mR (IntKind.i64.wrap (nx + 1)) pa er)).snd).nx = (rfB P en ws dp (mR nx pa er)).snd.nx /\ en = en /\ (muR ws en clB (wsm P en ws (IntKind.i64.wrap (dp + 1)) (mR (IntKind.i64.wrap (nx + 1)) pa er)).snd).er = (rfB P en ws dp (mR nx pa er)).snd.er /\ (muR ws en clB (wsm P en ws (IntKind.i64.wrap (dp + 1)) (mR (IntKind.i64.wrap (nx + 1)) pa er)).snd).pa = (rfB P en ws dp (mR nx pa er)).snd.pa /\ (wsm P en ws (IntKind.i64.wrap (dp + 1)) (mR (IntKind.i64.wrap (nx + 1)) pa er)).fst.d.rows = (rfB P en ws dp (mR nx pa er)).fst.d.rows))) /\ ((isB ws miB (mR nx pa er) || isB ws opB (mR nx pa er)) = false -> ((er == (0 : Int) && decide (nx < (↑ws.len : Int))) = true /\ True -> (0 : Int) <= nx /\ nx < (↑ws.len : Int)) /\ ((er == (0 : Int) && decide (nx < (↑ws.len : Int)) && (ws.el nx.toNat ((0 : Nat) + (0 : Nat))).toI == (2 : Int)) = true -> rdOK ws nx /\ (1 : Int) = (rfB P en ws dp (mR nx pa er)).fst.k /\ wnN ws (mR nx pa er) = (rfB P en ws dp (mR nx pa er)).fst.n /\ Value.string ByteArray.empty = Value.string (rfB P en ws dp (mR nx pa er)).fst.s /\ (rfB P en ws dp (mR nx pa er)).fst.d.len = 0 /\ ws.rows = ws.rows /\ (wnR ws en (2 : Int) (mR nx pa er)).nx = (rfB P en ws dp (mR nx pa er)).snd.nx /\ en = en /\ (wnR ws en (2 : Int) (mR nx pa er)).er = (rfB P en ws dp (mR nx pa er)).snd.er /\ (wnR ws en (2 : Int) (mR nx pa er)).pa = (rfB P en ws dp (mR nx pa er)).snd.pa /\ (rfB P en ws dp (mR nx pa er)).fst.d.rows = []) /\ ((er == (0 : Int) && decide (nx < (↑ws.len : Int)) && (ws.el nx.toNat ((0 : Nat) + (0 : Nat))).toI == (2 : Int)) = false -> rdOK ws nx /\ (2 : Int) = (rfB P en ws dp (mR nx pa er)).fst.k /\ (0 : Int) = (rfB P en ws dp (mR nx pa er)).fst.n /\ Value.string (wnS ws (mR nx pa er)) = Value.string (rfB P en ws dp (mR nx pa er)).fst.s /\ (rfB P en ws dp (mR nx pa er)).fst.d.len = 0 /\ ws.rows = ws.rows /\ (wnR ws en (1 : Int) (mR nx pa er)).nx = (rfB P en ws dp (mR nx pa er)).snd.nx /\ en = en /\ (wnR ws en (1 : Int) (mR nx pa er)).er = (rfB P en ws dp (mR nx pa er)).snd.er /\ (wnR ws en (1 : Int) (mR nx pa er)).pa = (rfB P en ws dp (mR nx pa er)).snd.pa /\ (rfB P en ws dp (mR nx pa er)).fst.d.rows = []))) (by kernel_rfl) ?_
    intro h hd hl
    have e1 : IntKind.i64.wrap (dp + 1) = dp + 1 := wr1 hd.1 (by have := hd.2; omega)
    simp only [e1, subAll]
    refine ⟨h, fun _ => h, fun hb => ?_, fun hb => ?_⟩
    · have hb2 : isB ws miB (mR nx pa er) = true ∨ isB ws opB (mR nx pa er) = true := by simpa using hb
      have hlt : nx < ws.len := by rcases hb2 with hb | hb <;> exact (isB_lt hb).2
      rw [nx1 h hlt]
      have e3 : mR (nx + 1) pa er = gx (mR nx pa er) := rfl
      rw [e3]
      obtain ⟨g1, g2⟩ := gx_ok (r := mR nx pa er) h hlt
      refine ⟨fun hq => ?_, fun hq => ⟨h, fun hm => ?_, fun hm => ?_⟩⟩
      · have e : rfB P en ws dp (mR nx pa er) = (X00, ffR ws en 6 (mR nx pa er)) := (if_pos hb2).trans (if_pos (of_decide_eq_true hq))
        rw [e]
        (repeat' (with_reducible apply And.intro)) <;> first | with_reducible rfl | exact True.intro | assumption | (symm; assumption) | rfl
      · have hq := of_decide_eq_false hq
        have e : rfB P en ws dp (mR nx pa er) = (⟨3, 0, ByteArray.empty, .l [(P en ws (dp + 1) (gx (mR nx pa er))).1.row]⟩, (P en ws (dp + 1) (gx (mR nx pa er))).2) := (if_pos hb2).trans ((if_neg (by omega)).trans (if_pos hm))
        rw [e]
        have d1 : dpOK ws (gx (mR nx pa er)) (dp + 1) := ⟨by have := hd.1; omega, by have := hd.2; omega⟩
        exact ⟨g1, d1, by omega, Nat.le_of_eq (Nat.zero_add _), (by (repeat' (with_reducible apply And.intro)) <;> first | with_reducible rfl | exact True.intro | assumption | (symm; assumption) | rfl)⟩
      · have hq := of_decide_eq_false hq
        have e : rfB P en ws dp (mR nx pa er) = ((wsm P en ws (dp + 1) (gx (mR nx pa er))).1, muR ws en clB (wsm P en ws (dp + 1) (gx (mR nx pa er))).2) := (if_pos hb2).trans ((if_neg (by omega)).trans (if_neg (by rw [hm]; decide)))
        rw [e]
        have d1 : dpOK ws (gx (mR nx pa er)) (dp + 1) := ⟨by have := hd.1; omega, by have := hd.2; omega⟩
        have u := (wsm_up hPa en ws (dp + 1)).up _ g1
        exact ⟨g1, d1, by omega, u.2.1, (by (repeat' (with_reducible apply And.intro)) <;> first | with_reducible rfl | exact True.intro | assumption | (symm; assumption) | rfl)⟩
    · have hb2 : ¬ (isB ws miB (mR nx pa er) = true ∨ isB ws opB (mR nx pa er) = true) := by
        intro hx
        simp only [Bool.or_eq_false_iff] at hb
        rcases hx with hx | hx
        · rw [hb.1] at hx; cases hx
        · rw [hb.2] at hx; cases hx
      rw [ki_yes]
      refine ⟨fun hc => ⟨h.1, ?_⟩, fun hc => ?_, fun hc => ?_⟩
      · have := hc.1
        simp only [Bool.and_eq_true] at this
        exact of_decide_eq_true this.2
      · have e : rfB P en ws dp (mR nx pa er) = (⟨1, wnN ws (mR nx pa er), ByteArray.empty, .l []⟩, wnR ws en 2 (mR nx pa er)) := (if_neg hb2).trans (if_pos hc)
        rw [e]
        (repeat' (with_reducible apply And.intro)) <;> first | with_reducible rfl | exact True.intro | assumption | (symm; assumption) | rfl
      · have e : rfB P en ws dp (mR nx pa er) = (⟨2, 0, wnS ws (mR nx pa er), .l []⟩, wnR ws en 1 (mR nx pa er)) := (if_neg hb2).trans (if_neg (by rw [hc]; decide))
        rw [e]
        (repeat' (with_reducible apply And.intro)) <;> first | with_reducible rfl | exact True.intro | assumption | (symm; assumption) | rfl
  · trivial
def wfR : Nat -> PF
  | 0 => fun _ _ _ r => (⟨0, 0, ByteArray.empty, .l []⟩, r)
  | m + 1 => rfB (wfR m)
theorem wfR_up : ∀ (m : Nat) (en : Int) (ws : D) (dp : Int), PaOK ws (wfR m en ws dp)
  | 0, _, _, _ => ⟨fun _ h => ⟨Int.le_refl _, h, Nat.zero_le _⟩⟩
  | m + 1, en, ws, dp => rfB_up (wfR_up m) en ws dp
theorem wpa_zero {F : PF} : ConOK Try.prog 92 (wpaC F 0) := by
  refine ⟨fun _ _ => by kernel_rfl, fun hp fr args e he hv => ?_, fun hp fr caps e h => by cases h⟩
  exfalso
  obtain ⟨ds, e1, sg, ps1, ps2, hs, hvc, _⟩ := conM_in he
  rw [hvc] at hv
  obtain ⟨_, hv⟩ := all_append.1 hv
  obtain ⟨_, hv⟩ := all_append.1 hv
  unfold wpaS at hs
  split at hs
  · simp only [Option.some.injEq, Prod.mk.injEq] at hs
    obtain ⟨rfl, rfl⟩ := hs
    exact Nat.not_lt_zero _ hv.2.2.1
  · cases hs
theorem wfc_all : ∀ m, ConOK Try.prog 92 (wpaC (wfR m) m)
  | 0 => wpa_zero
  | m + 1 => wfc_ok (P := wfR m) (m := m) (wfc_all m) (wfR_up m)
def wsX : PF := wsm (wfR 1000001)
theorem wsX_ok : ConOK Try.prog 48 (wpaC wsX 1000001) := wex_ok (wfc_all 1000001) (wfR_up 1000001)
theorem wsX_up (en : Int) (ws : D) (dp : Int) : PaOK ws (wsX en ws dp) := wsm_up (wfR_up 1000001) en ws dp
attribute [irreducible] wsX
end Go.Proofs.Ytbhbjhejkamlnaa.Sx.Z
namespace Go.Proofs.Ytbhbjhejkamlnaa.Sx.Z
open Go.RowKit
def sgC : D := .l [[.s ⟨#[61, 61]⟩], [.s ⟨#[33, 61]⟩], [.s ⟨#[60]⟩], [.s ⟨#[60, 61]⟩], [.s ⟨#[62]⟩], [.s ⟨#[62, 61]⟩]]
def wcA (ws : D) (en : Int) (r : Rd) : Xp × Rd := wsX en ws 0 (muR ws en opB r)
def wcO (ws : D) (en : Int) (r : Rd) : Int := ixR ws sgC (wcA ws en r).2 6 + 1
def wcB (ws : D) (en : Int) (r : Rd) : Xp × Rd := wsX en ws 0 (gx (wcA ws en r).2)
def wcC (ws : D) (en : Int) (r : Rd) : Cd := if wcO ws en r = 0 then ⟨0, (wcA ws en r).1, X00⟩ else ⟨wcO ws en r, (wcA ws en r).1, (wcB ws en r).1⟩
def wcR (ws : D) (en : Int) (r : Rd) : Rd := if wcO ws en r = 0 then ffR ws en 5 (wcA ws en r).2 else muR ws en clB (wcB ws en r).2
theorem wcA_up {ws : D} (en : Int) {r : Rd} (h : rdOK ws r.nx) : rdOK ws (muR ws en opB r).nx /\ rdOK ws (wcA ws en r).2.nx /\ r.nx <= (wcA ws en r).2.nx := by
  have a := mu_up en (t := opB) h
  have b := (wsX_up en ws 0).up _ a.1
  exact ⟨a.1, b.2.1, Int.le_trans a.2 b.1⟩
theorem wcR_up {ws : D} (en : Int) {r : Rd} (h : rdOK ws r.nx) : rdOK ws (wcR ws en r).nx /\ r.nx <= (wcR ws en r).nx := by
  obtain ⟨a, b, c⟩ := wcA_up en h
  unfold wcR
  split
  · have := ff_up en 5 b
    exact ⟨this.1, Int.le_trans c this.2⟩
  · rename_i h0
    have hx := ix_lt (ws := ws) (sg := sgC) (r := (wcA ws en r).2) 6 (by unfold wcO at h0; have := ix_m1 (ws := ws) (sg := sgC) (r := (wcA ws en r).2) 6; omega)
    have g := gx_up b hx.2.1
    have d := (wsX_up en ws 0).up _ g.1
    have e := mu_up en (t := clB) d.2.1
    exact ⟨e.1, Int.le_trans c (Int.le_trans g.2 (Int.le_trans d.1 e.2))⟩
noncomputable def wcdS : List Dat -> Option (Eff × List Seg) := fun ds => match ds with
  | [.d ws, .i nx, .i en, .i er, .i pa] => some ({ val := .one (.agg [.c (.int .i64 (.sym ((wcC ws en (mR nx pa er)).op))), .c (.int .i64 (.sym ((wcC ws en (mR nx pa er)).l).k)), .c (.int .i64 (.sym ((wcC ws en (mR nx pa er)).l).n)), .c (.raw (.string ((wcC ws en (mR nx pa er)).l).s)), .c (.osl 45 0 (.lit 0) (.sym ((wcC ws en (mR nx pa er)).l).d.len)), .c (.int .i64 (.sym ((wcC ws en (mR nx pa er)).r).k)), .c (.int .i64 (.sym ((wcC ws en (mR nx pa er)).r).n)), .c (.raw (.string ((wcC ws en (mR nx pa er)).r).s)), .c (.osl 45 1 (.lit 0) (.sym ((wcC ws en (mR nx pa er)).r).d.len))]), vc := [rdOK ws nx], nw := [(0, .orow 45 (wcC ws en (mR nx pa er)).l.d), (1, .orow 45 (wcC ws en (mR nx pa er)).r.d)] }, [.c (.rows 123 ws), .c (.int .i64 (.sym ((wcR ws en (mR nx pa er)).nx))), .c (.int .i64 (.sym en)), .c (.int .i64 (.sym ((wcR ws en (mR nx pa er)).er))), .c (.int .i64 (.sym ((wcR ws en (mR nx pa er)).pa)))])
  | _ => none
noncomputable def wcdC : Con := conM 71 [.c (.rows 123), .c (.int .i64), .c (.int .i64), .c (.int .i64), .c (.int .i64)] [] wcdS
theorem wcd_ok : ConOK Try.prog 46 wcdC := by
  refine fn_obM tt_ok mixed Try.func46 rfl (fun _ _ => by kernel_rfl) (A := fun ds => ⟨fun _ => Cons.of [(48, (wpaC wsX 1000001)), (16, wisC), (19, wmuC), (22, wfaC)], fun k => match k, ds with | 5, [.d ws, .i nx, .i en, .i er, .i pa] => some { ι := Nat, pre := fun _ i => i <= 6 /\ True, μ := fun i => 7 - i, st := fun s i => famR s [(5, .one (.sc (.int .i64 (.sym ((i : Nat))))))] [0, 2, 3, 4] [(0, .own 71 ([.c (.rows 123 ws), .c (.int .i64 (.sym (((wcA ws en (mR nx pa er)).2).nx))), .c (.int .i64 (.sym en)), .c (.int .i64 (.sym (((wcA ws en (mR nx pa er)).2).er))), .c (.int .i64 (.sym (((wcA ws en (mR nx pa er)).2).pa)))])), (idOf s 3, .own 48 ([.c (.int .i64 (.sym (ixR ws sgC (wcA ws en (mR nx pa er)).2 i + 1))), .c (.int .i64 (.sym ((wcA ws en (mR nx pa er)).1).k)), .c (.int .i64 (.sym ((wcA ws en (mR nx pa er)).1).n)), .c (.raw (.string ((wcA ws en (mR nx pa er)).1).s)), .c (.osl 45 (cellIdP s 3 4) (.lit 0) (.sym ((wcA ws en (mR nx pa er)).1).d.len)), .c (.int .i64 (.sym 0)), .c (.int .i64 (.sym 0)), .c (.raw (.string ByteArray.empty)), .c .nils])), (cellIdP s 3 4, .orow 45 ((wcA ws en (mR nx pa er)).1.d))] [2, 4] } | _, _ => none, fun _ => none⟩) (fun _ _ => (cons_cons wsX_ok (cons_cons wis_ok (cons_cons wmu_ok (cons_cons wfa_ok cons_nil))))) (by kernel_rfl) ?_
  intro ds
  unfold wcdS
  split
  · rename_i ws nx en er pa
    refine kmp (q := rdOK ws nx -> rdOK ws nx /\ rdOK ws (muR ws en opB (mR nx pa er)).nx /\ dpOK ws (muR ws en opB (mR nx pa er)) (0 : Int) /\ left ws (muR ws en opB (mR nx pa er)) < 1000001 /\ (∃ (i : Nat), (i <= 6 /\ True) /\ (0 : Int) = (↑i : Int) /\ 6 = 6 /\ ws.rows = ws.rows /\ (wsX en ws (0 : Int) (muR ws en opB (mR nx pa er))).snd.nx = (wcA ws en (mR nx pa er)).snd.nx /\ en = en /\ (wsX en ws (0 : Int) (muR ws en opB (mR nx pa er))).snd.er = (wcA ws en (mR nx pa er)).snd.er /\ (wsX en ws (0 : Int) (muR ws en opB (mR nx pa er))).snd.pa = (wcA ws en (mR nx pa er)).snd.pa /\ (0 : Int) = ixR ws sgC (wcA ws en (mR nx pa er)).snd i + 1 /\ (wsX en ws (0 : Int) (muR ws en opB (mR nx pa er))).fst.k = (wcA ws en (mR nx pa er)).fst.k /\ (wsX en ws (0 : Int) (muR ws en opB (mR nx pa er))).fst.n = (wcA ws en (mR nx pa er)).fst.n /\ Value.string (wsX en ws (0 : Int) (muR ws en opB (mR nx pa er))).fst.s = Value.string (wcA ws en (mR nx pa er)).fst.s /\ (wsX en ws (0 : Int) (muR ws en opB (mR nx pa er))).fst.d.len = (wcA ws en (mR nx pa er)).fst.d.len /\ (0 : Int) = (0 : Int) /\ (0 : Int) = (0 : Int) /\ Value.string ByteArray.empty = Value.string ByteArray.empty /\ (wsX en ws (0 : Int) (muR ws en opB (mR nx pa er))).fst.d.rows = (wcA ws en (mR nx pa er)).fst.d.rows /\ (0 : Int) = (0 : Int) /\ (0 : Int) = (0 : Int) /\ (0 : Int) = (0 : Int) /\ Value.string ByteArray.empty = Value.string ByteArray.empty /\ (0 : Int) = (0 : Int) /\ (0 : Int) = (0 : Int) /\ Value.string ByteArray.empty = Value.string ByteArray.empty /\ [[D.s (ByteArray.mk #[61, 61])], [D.s (ByteArray.mk #[33, 61])], [D.s (ByteArray.mk #[60])], [D.s (ByteArray.mk #[60, 61])], [D.s (ByteArray.mk #[62])], [D.s (ByteArray.mk #[62, 61])]] = [[D.s (ByteArray.mk #[61, 61])], [D.s (ByteArray.mk #[33, 61])], [D.s (ByteArray.mk #[60])], [D.s (ByteArray.mk #[60, 61])], [D.s (ByteArray.mk #[62])], [D.s (ByteArray.mk #[62, 61])]]) /\ ∀ (i : Nat), i <= 6 /\ True -> (decide ((↑i : Int) < (6 : Int)) = true -> ((0 : Int) <= (↑i : Int) /\ (↑i : Int) < (↑6 : Int)) /\ (↑i : Int).toNat < (D.l [[D.s (ByteArray.mk #[61, 61])], [D.s (ByteArray.mk #[33, 61])], [D.s (ByteArray.mk #[60])], [D.s (ByteArray.mk #[60, 61])], [D.s (ByteArray.mk #[62])], [D.s (ByteArray.mk #[62, 61])]]).len /\ rdOK ws (wcA ws en (mR nx pa er)).snd.nx /\ (isB ws ((D.l [[D.s (ByteArray.mk #[61, 61])], [D.s (ByteArray.mk #[33, 61])], [D.s (ByteArray.mk #[60])], [D.s (ByteArray.mk #[60, 61])], [D.s (ByteArray.mk #[62])], [D.s (ByteArray.mk #[62, 61])]]).el (↑i : Int).toNat (0 : Nat)).toS (wcA ws en (mR nx pa er)).snd = true -> ∃ (j : Nat), (j <= 6 /\ True) /\ 7 - j < 7 - i /\ IntKind.i64.wrap ((↑i : Int) + 1) = (↑j : Int) /\ 6 = 6 /\ ws.rows = ws.rows /\ (wcA ws en (mR nx pa er)).snd.nx = (wcA ws en (mR nx pa er)).snd.nx /\ en = en /\ (wcA ws en (mR nx pa er)).snd.er = (wcA ws en (mR nx pa er)).snd.er /\ (wcA ws en (mR nx pa er)).snd.pa = (wcA ws en (mR nx pa er)).snd.pa /\ IntKind.i64.wrap ((↑i : Int) + 1) = ixR ws sgC (wcA ws en (mR nx pa er)).snd j + 1 /\ (wcA ws en (mR nx pa er)).fst.k = (wcA ws en (mR nx pa er)).fst.k /\ (wcA ws en (mR nx pa er)).fst.n = (wcA ws en (mR nx pa er)).fst.n /\ Value.string (wcA ws en (mR nx pa er)).fst.s = Value.string (wcA ws en (mR nx pa er)).fst.s /\ (wcA ws en (mR nx pa er)).fst.d.len = (wcA ws en (mR nx pa er)).fst.d.len /\ (0 : Int) = (0 : Int) /\ (0 : Int) = (0 : Int) /\ Value.string ByteArray.empty = Value.string ByteArray.empty /\ (wcA ws en (mR nx pa er)).fst.d.rows = (wcA ws en (mR nx pa er)).fst.d.rows /\ (0 : Int) = (0 : Int) /\ (0 : Int) = (0 : Int) /\ (0 : Int) = (0 : Int) /\ Value.string ByteArray.empty = Value.string ByteArray.empty /\ (0 : Int) = (0 : Int) /\ (0 : Int) = (0 : Int) /\ Value.string ByteArray.empty = Value.string ByteArray.empty /\ [[D.s (ByteArray.mk #[61, 61])], [D.s (ByteArray.mk #[33, 61])], [D.s (ByteArray.mk #[60])], [D.s (ByteArray.mk #[60, 61])], [D.s (ByteArray.mk #[62])], [D.s (ByteArray.mk #[62, 61])]] = [[D.s (ByteArray.mk #[61, 61])], [D.s (ByteArray.mk #[33, 61])], [D.s (ByteArray.mk #[60])], [D.s (ByteArray.mk #[60, 61])], [D.s (ByteArray.mk #[62])], [D.s (ByteArray.mk #[62, 61])]]) /\ (isB ws ((D.l [[D.s (ByteArray.mk #[61, 61])], [D.s (ByteArray.mk #[33, 61])], [D.s (ByteArray.mk #[60])], [D.s (ByteArray.mk #[60, 61])], [D.s (ByteArray.mk #[62])], [D.s (ByteArray.mk #[62, 61])]]).el (↑i : Int).toNat (0 : Nat)).toS (wcA ws en (mR nx pa er)).snd = false -> ∃ (j : Nat), (j <= 6 /\ True) /\ 7 - j < 7 - i /\ IntKind.i64.wrap ((↑i : Int) + 1) = (↑j : Int) /\ 6 = 6 /\ ws.rows = ws.rows /\ (wcA ws en (mR nx pa er)).snd.nx = (wcA ws en (mR nx pa er)).snd.nx /\ en = en /\ (wcA ws en (mR nx pa er)).snd.er = (wcA ws en (mR nx pa er)).snd.er /\ (wcA ws en (mR nx pa er)).snd.pa = (wcA ws en (mR nx pa er)).snd.pa /\ ixR ws sgC (wcA ws en (mR nx pa er)).snd i + 1 = ixR ws sgC (wcA ws en (mR nx pa er)).snd j + 1 /\ (wcA ws en (mR nx pa er)).fst.k = (wcA ws en (mR nx pa er)).fst.k /\ (wcA ws en (mR nx pa er)).fst.n = (wcA ws en (mR nx pa er)).fst.n /\ Value.string (wcA ws en (mR nx pa er)).fst.s = Value.string (wcA ws en (mR nx pa er)).fst.s /\ (wcA ws en (mR nx pa er)).fst.d.len = (wcA ws en (mR nx pa er)).fst.d.len /\ (0 : Int) = (0 : Int) /\ (0 : Int) = (0 : Int) /\ Value.string ByteArray.empty = Value.string ByteArray.empty /\ (wcA ws en (mR nx pa er)).fst.d.rows = (wcA ws en (mR nx pa er)).fst.d.rows /\ (0 : Int) = (0 : Int) /\ (0 : Int) = (0 : Int) /\ (0 : Int) = (0 : Int) /\ Value.string ByteArray.empty = Value.string ByteArray.empty /\ (0 : Int) = (0 : Int) /\ (0 : Int) = (0 : Int) /\ Value.string ByteArray.empty = Value.string ByteArray.empty /\ [[D.s (ByteArray.mk #[61, 61])], [D.s (ByteArray.mk #[33, 61])], [D.s (ByteArray.mk #[60])], [D.s (ByteArray.mk #[60, 61])], [D.s (ByteArray.mk #[62])], [D.s (ByteArray.mk #[62, 61])]] = [[D.s (ByteArray.mk #[61, 61])], [D.s (ByteArray.mk #[33, 61])], [D.s (ByteArray.mk #[60])], [D.s (ByteArray.mk #[60, 61])], [D.s (ByteArray.mk #[62])], [D.s (ByteArray.mk #[62, 61])]])) /\ (decide ((↑i : Int) < (6 : Int)) = false -> ((ixR ws sgC (wcA ws en (mR nx pa er)).snd i + 1 == (0 : Int)) = true -> rdOK ws (wcA ws en (mR nx pa er)).snd.nx /\ ixR ws sgC (wcA ws en (mR nx pa er)).snd i + 1 = (wcC ws en (mR nx pa er)).op /\ (wcA ws en (mR nx pa er)).fst.k = (wcC ws en (mR nx pa er)).l.k /\ (wcA ws en (mR nx pa er)).fst.n = (wcC ws en (mR nx pa er)).l.n /\ Value.string (wcA ws en (mR nx pa er)).fst.s = Value.string (wcC ws en (mR nx pa er)).l.s /\ (wcA ws en (mR nx pa er)).fst.d.len = (wcC ws en (mR nx pa er)).l.d.len /\ (0 : Int) = (wcC ws en (mR nx pa er)).r.k /\ (0 : Int) = (wcC ws en (mR nx pa er)).r.n /\ Value.string ByteArray.empty = Value.string (wcC ws en (mR nx pa er)).r.s /\ (wcC ws en (mR nx pa er)).r.d.len = 0 /\ ws.rows = ws.rows /\ (ffR ws en (5 : Int) (wcA ws en (mR nx pa er)).snd).nx = (wcR ws en (mR nx pa er)).nx /\ en = en /\ (ffR ws en (5 : Int) (wcA ws en (mR nx pa er)).snd).er = (wcR ws en (mR nx pa er)).er /\ (ffR ws en (5 : Int) (wcA ws en (mR nx pa er)).snd).pa = (wcR ws en (mR nx pa er)).pa /\ (wcA ws en (mR nx pa er)).fst.d.rows = (wcC ws en (mR nx pa er)).l.d.rows /\ (wcC ws en (mR nx pa er)).r.d.rows = []) /\ ((ixR ws sgC (wcA ws en (mR nx pa er)).snd i + 1 == (0 : Int)) = false -> rdOK ws (IntKind.i64.wrap ((wcA ws en (mR nx pa er)).snd.nx + 1)) /\ dpOK ws (mR (IntKind.i64.wrap ((wcA ws en (mR nx pa er)).snd.nx + 1)) (wcA ws en (mR nx pa er)).snd.pa (wcA ws en (mR nx pa er)).snd.er) (0 : Int) /\ left ws (mR (IntKind.i64.wrap ((wcA ws en (mR nx pa er)).snd.nx + 1)) (wcA ws en (mR nx pa er)).snd.pa (wcA ws en (mR nx pa er)).snd.er) < 1000001 /\ rdOK ws (wsX en ws (0 : Int) (mR (IntKind.i64.wrap ((wcA ws en (mR nx pa er)).snd.nx + 1)) (wcA ws en (mR nx pa er)).snd.pa (wcA ws en (mR nx pa er)).snd.er)).snd.nx /\ ixR ws sgC (wcA ws en (mR nx pa er)).snd i + 1 = (wcC ws en (mR nx pa er)).op /\ (wcA ws en (mR nx pa er)).fst.k = (wcC ws en (mR nx pa er)).l.k /\ (wcA ws en (mR nx pa er)).fst.n = (wcC ws en (mR nx pa er)).l.n /\ Value.string (wcA ws en (mR nx pa er)).fst.s = Value.string (wcC ws en (mR nx pa er)).l.s /\ (wcA ws en (mR nx pa er)).fst.d.len = (wcC ws en (mR nx pa er)).l.d.len /\ (wsX en ws (0 : Int) (mR (IntKind.i64.wrap ((wcA ws en (mR nx pa er)).snd.nx + 1)) (wcA ws en (mR nx pa er)).snd.pa (wcA ws en (mR nx pa er)).snd.er)).fst.k = (wcC ws en (mR nx pa er)).r.k /\ (wsX en ws (0 : Int) (mR (IntKind.i64.wrap ((wcA ws en (mR nx pa er)).snd.nx + 1)) (wcA ws en (mR nx pa er)).snd.pa (wcA ws en (mR nx pa er)).snd.er)).fst.n = (wcC ws en (mR nx pa er)).r.n /\ Value.string (wsX en ws (0 : Int) (mR (IntKind.i64.wrap ((wcA ws en (mR nx pa er)).snd.nx + 1)) (wcA ws en (mR nx pa er)).snd.pa (wcA ws en (mR nx pa er)).snd.er)).fst.s = Value.string (wcC ws en (mR nx pa er)).r.s /\ (wsX en ws (0 : Int) (mR (IntKind.i64.wrap ((wcA ws en (mR nx pa er)).snd.nx + 1)) (wcA ws en (mR nx pa er)).snd.pa (wcA ws en (mR nx pa er)).snd.er)).fst.d.len = (wcC ws en (mR nx pa er)).r.d.len /\ ws.rows = ws.rows /\ (muR ws en clB (wsX en ws (0 : Int) (mR (IntKind.i64.wrap ((wcA ws en (mR nx pa er)).snd.nx + 1)) (wcA ws en (mR nx pa er)).snd.pa (wcA ws en (mR nx pa er)).snd.er)).snd).nx = (wcR ws en (mR nx pa er)).nx /\ en = en /\ (muR ws en clB (wsX en ws (0 : Int) (mR (IntKind.i64.wrap ((wcA ws en (mR nx pa er)).snd.nx + 1)) (wcA ws en (mR nx pa er)).snd.pa (wcA ws en (mR nx pa er)).snd.er)).snd).er = (wcR ws en (mR nx pa er)).er /\ (muR ws en clB (wsX en ws (0 : Int) (mR (IntKind.i64.wrap ((wcA ws en (mR nx pa er)).snd.nx + 1)) (wcA ws en (mR nx pa er)).snd.pa (wcA ws en (mR nx pa er)).snd.er)).snd).pa = (wcR ws en (mR nx pa er)).pa /\ (wcA ws en (mR nx pa er)).fst.d.rows = (wcC ws en (mR nx pa er)).l.d.rows /\ (wsX en ws (0 : Int) (mR (IntKind.i64.wrap ((wcA ws en (mR nx pa er)).snd.nx + 1)) (wcA ws en (mR nx pa er)).snd.pa (wcA ws en (mR nx pa er)).snd.er)).fst.d.rows = (wcC ws en (mR nx pa er)).r.d.rows))) (by kernel_rfl) ?_
    intro h
    obtain ⟨a, b, c⟩ := wcA_up en (r := mR nx pa er) h
    have h6 : ixR ws sgC (wcA ws en (mR nx pa er)).2 6 < 6 := by
      rcases ix_ge (ws := ws) (sg := sgC) (r := (wcA ws en (mR nx pa er)).2) 6 with h | h
      · exact h.2
      · cases h
    refine ⟨h, a, (lf_lt a).1, (lf_lt a).2, ⟨0, ⟨by decide, trivial⟩, (by (repeat' (with_reducible apply And.intro)) <;> first | with_reducible rfl | exact True.intro | assumption | (symm; assumption) | rfl)⟩, fun i hi => ⟨fun hc => ?_, fun hc => ?_⟩⟩
    · have hc := of_decide_eq_true hc
      have hi2 : i < 6 := by omega
      have hw : IntKind.i64.wrap ((i : Int) + 1) = ((i + 1 : Nat) : Int) := by rw [IntWalk.i64_in _ (by omega)]; omega
      have hw2 : IntKind.i64.wrap ((i : Int) + 1) = (i : Int) + 1 := by rw [IntWalk.i64_in _ (by omega)]
      refine ⟨⟨by omega, by omega⟩, hi2, b, fun hb => ⟨i + 1, ⟨hi2, trivial⟩, by omega, hw, ?_⟩, fun hb => ⟨i + 1, ⟨hi2, trivial⟩, by omega, hw, ?_⟩⟩
      · have hb : isB ws (sgC.el i 0).toS (wcA ws en (mR nx pa er)).2 = true := hb
        have e : ixR ws sgC (wcA ws en (mR nx pa er)).2 (i + 1) = (i : Int) := if_pos hb
        rw [e, hw2]
        (repeat' (with_reducible apply And.intro)) <;> first | with_reducible rfl | exact True.intro | assumption | (symm; assumption) | rfl
      · have hb : isB ws (sgC.el i 0).toS (wcA ws en (mR nx pa er)).2 = false := hb
        have e : ixR ws sgC (wcA ws en (mR nx pa er)).2 (i + 1) = ixR ws sgC (wcA ws en (mR nx pa er)).2 i := if_neg (by rw [hb]; decide)
        rw [e]
        (repeat' (with_reducible apply And.intro)) <;> first | with_reducible rfl | exact True.intro | assumption | (symm; assumption) | rfl
    · have hc := of_decide_eq_false hc
      obtain rfl : i = 6 := by have := hi.1; omega
      refine ⟨fun hz => ?_, fun hz => ?_⟩
      · have hz : wcO ws en (mR nx pa er) = 0 := eq_of_beq hz
        have e1 : ixR ws sgC (wcA ws en (mR nx pa er)).2 6 + 1 = 0 := hz
        have e : wcC ws en (mR nx pa er) = ⟨0, (wcA ws en (mR nx pa er)).1, X00⟩ := if_pos hz
        have e2 : wcR ws en (mR nx pa er) = ffR ws en 5 (wcA ws en (mR nx pa er)).2 := if_pos hz
        rw [e, e2, e1]
        (repeat' (with_reducible apply And.intro)) <;> first | with_reducible rfl | exact True.intro | assumption | (symm; assumption) | rfl
      · have hz : wcO ws en (mR nx pa er) ≠ 0 := ne_of_beq_false hz
        have e : wcC ws en (mR nx pa er) = ⟨wcO ws en (mR nx pa er), (wcA ws en (mR nx pa er)).1, (wcB ws en (mR nx pa er)).1⟩ := if_neg hz
        have e2 : wcR ws en (mR nx pa er) = muR ws en clB (wcB ws en (mR nx pa er)).2 := if_neg hz
        have hx := ix_lt (ws := ws) (sg := sgC) (r := (wcA ws en (mR nx pa er)).2) 6 (by unfold wcO at hz; have := ix_m1 (ws := ws) (sg := sgC) (r := (wcA ws en (mR nx pa er)).2) 6; omega)
        have g := gx_up b hx.2.1
        have d := (wsX_up en ws 0).up _ g.1
        rw [nx1 b hx.2.1]
        have e3 : mR ((wcA ws en (mR nx pa er)).2.nx + 1) (wcA ws en (mR nx pa er)).2.pa (wcA ws en (mR nx pa er)).2.er = gx (wcA ws en (mR nx pa er)).2 := rfl
        rw [e3, e, e2]
        exact ⟨g.1, (lf_lt g.1).1, (lf_lt g.1).2, d.2.1, (by (repeat' (with_reducible apply And.intro)) <;> first | with_reducible rfl | exact True.intro | assumption | (symm; assumption) | rfl)⟩
  · trivial
end Go.Proofs.Ytbhbjhejkamlnaa.Sx.Z
namespace Go.Proofs.Ytbhbjhejkamlnaa.Sx.Z
open Go.RowKit
noncomputable def wstS (P : PB) (m : Nat) : List Dat -> Option (Eff × List Seg) := fun ds => match ds with
  | [.d ws, .i nx, .i en, .i er, .i pa, .i dp] => some ({ val := .one (.sc (.osl 52 (0) (.lit 0) (.sym ((P en ws dp (mR nx pa er)).1.len)))), vc := [rdOK ws nx, dpOK ws (mR nx pa er) dp, left ws (mR nx pa er) < m], nw := [(0, .orow 52 ((P en ws dp (mR nx pa er)).1))] }, [.c (.rows 123 ws), .c (.int .i64 (.sym ((((P en ws dp (mR nx pa er)).2)).nx))), .c (.int .i64 (.sym en)), .c (.int .i64 (.sym ((((P en ws dp (mR nx pa er)).2)).er))), .c (.int .i64 (.sym ((((P en ws dp (mR nx pa er)).2)).pa)))])
  | _ => none
noncomputable def wstC (P : PB) (m : Nat) : Con := conM 71 [.c (.rows 123), .c (.int .i64), .c (.int .i64), .c (.int .i64), .c (.int .i64)] [.sc (.int .i64)] (wstS P m)
def wblF (P : PB) : PB := fun en ws dp r => if isB ws obB r = true /\ 24 <= dp then (.l [], ffR ws en 6 r) else ((P en ws (dp + 1) (muR ws en obB r)).1, muR ws en cbB (P en ws (dp + 1) (muR ws en obB r)).2)
theorem wbl_up {P : PB} {ws : D} {en : Int} (hPa : ∀ dp, PbOK ws (P en ws dp)) {dp : Int} {r : Rd} (h : rdOK ws r.nx) : rdOK ws (muR ws en obB r).nx /\ r.nx <= (muR ws en obB r).nx /\ rdOK ws (P en ws (dp + 1) (muR ws en obB r)).2.nx /\ rdOK ws (wblF P en ws dp r).2.nx /\ r.nx <= (wblF P en ws dp r).2.nx := by
  have a := mu_up en (t := obB) h
  have b := (hPa (dp + 1)).up _ a.1
  have c := mu_up en (t := cbB) b.2
  refine ⟨a.1, a.2, b.2, ?_⟩
  unfold wblF
  split
  · exact ff_up en 6 h
  · exact ⟨c.1, Int.le_trans a.2 (Int.le_trans b.1 c.2)⟩
def lfm (ws : D) (r : Rd) : Nat := if r.er = 0 then left ws r + 1 else 0
def seqE (go : Rd -> Bool) (F : Rd -> List D × Rd) (ws d : D) (r : Rd) : D × Rd := seqL go F (lfm ws r) d r
structure SeOK (ws : D) (go : Rd -> Bool) (F : Rd -> List D × Rd) : Prop where
  up : ∀ r, rdOK ws r.nx -> go r = true -> rdOK ws (F r).2.nx /\ r.nx <= (F r).2.nx /\ lfm ws (F r).2 < lfm ws r
theorem seqE_fuel {ws : D} {go : Rd -> Bool} {F : Rd -> List D × Rd} (hF : SeOK ws go F) : ∀ (n : Nat) (d : D) (r : Rd), rdOK ws r.nx -> lfm ws r <= n -> seqL go F n d r = seqL go F (lfm ws r) d r := by
  intro n
  induction n using Nat.strongRecOn with
  | ind n ih =>
    intro d r h hl
    cases hg : go r with
    | false => rw [seqL_end hg, seqL_end hg]
    | true =>
      obtain ⟨u1, _, u3⟩ := hF.up r h hg
      cases n with
      | zero => omega
      | succ k =>
        obtain ⟨j, hj⟩ : ∃ j, lfm ws r = j + 1 := ⟨lfm ws r - 1, by omega⟩
        rw [hj, seqL, if_pos hg, seqL, if_pos hg, ih k (by omega) _ _ u1 (by omega), ih j (by omega) _ _ u1 (by omega)]
theorem se_end {ws : D} {go : Rd -> Bool} {F : Rd -> List D × Rd} {d : D} {r : Rd} (h : go r = false) : seqE go F ws d r = (d, r) := seqL_end h _
theorem se_step {ws : D} {go : Rd -> Bool} {F : Rd -> List D × Rd} (hF : SeOK ws go F) {d : D} {r : Rd} (h : rdOK ws r.nx) (hg : go r = true) : seqE go F ws (.l (d.rows ++ [(F r).1])) (F r).2 = seqE go F ws d r := by
  obtain ⟨u1, _, u3⟩ := hF.up r h hg
  obtain ⟨j, hj⟩ : ∃ j, lfm ws r = j + 1 := ⟨lfm ws r - 1, by omega⟩
  unfold seqE
  rw [hj, seqL, if_pos hg, seqE_fuel hF j _ _ u1 (by omega)]
theorem seE_up {ws : D} {go : Rd -> Bool} {F : Rd -> List D × Rd} (hF : SeOK ws go F) : ∀ (n : Nat) (d : D) (r : Rd), rdOK ws r.nx -> rdOK ws (seqL go F n d r).2.nx /\ r.nx <= (seqL go F n d r).2.nx
  | 0, d, r, h => ⟨h, Int.le_refl _⟩
  | n + 1, d, r, h => by
    cases hg : go r with
    | false =>
      rw [seqL_end hg]
      exact ⟨h, Int.le_refl _⟩
    | true =>
      obtain ⟨u1, u2, _⟩ := hF.up r h hg
      have := seE_up hF n (.l (d.rows ++ [(F r).1])) (F r).2 u1
      rw [seqL, if_pos hg]
      exact ⟨this.1, by omega⟩
theorem se_up {ws : D} {go : Rd -> Bool} {F : Rd -> List D × Rd} (hF : SeOK ws go F) (d : D) {r : Rd} (h : rdOK ws r.nx) : rdOK ws (seqE go F ws d r).2.nx /\ r.nx <= (seqE go F ws d r).2.nx := seE_up hF _ d r h
theorem lfm_lt {ws : D} {r q : Rd} (h0 : r.er = 0) (h : rdOK ws r.nx) (hq : rdOK ws q.nx) (hn : q.er = 0 -> r.nx < q.nx) : lfm ws q < lfm ws r := by
  unfold lfm
  rw [if_pos h0]
  split
  · rename_i h1
    have := lt_left hq h (hn h1)
    omega
  · omega
theorem lfm_le (ws : D) {r : Rd} (h : rdOK ws r.nx) : lfm ws r <= 1000001 := by
  have := (lf_lt h).2
  unfold lfm
  split <;> omega
noncomputable def wblS (P : PB) (m : Nat) : List Dat -> Option (Eff × List Seg) := fun ds => match ds with
  | [.d ws, .i nx, .i en, .i er, .i pa, .i dp] => some ({ val := .one (.sc (.osl 52 (0) (.lit 0) (.sym ((wblF P en ws dp (mR nx pa er)).1.len)))), vc := [rdOK ws nx, dqOK ws (mR nx pa er) dp, left ws (mR nx pa er) < m], nw := [(0, .orow 52 ((wblF P en ws dp (mR nx pa er)).1))] }, [.c (.rows 123 ws), .c (.int .i64 (.sym (((wblF P en ws dp (mR nx pa er)).2).nx))), .c (.int .i64 (.sym en)), .c (.int .i64 (.sym (((wblF P en ws dp (mR nx pa er)).2).er))), .c (.int .i64 (.sym (((wblF P en ws dp (mR nx pa er)).2).pa)))])
  | _ => none
noncomputable def wblC (P : PB) (m : Nat) : Con := conM 71 [.c (.rows 123), .c (.int .i64), .c (.int .i64), .c (.int .i64), .c (.int .i64)] [.sc (.int .i64)] (wblS P m)
theorem wbl_ok {P : PB} {m : Nat} (hP : ConOK Try.prog 21 (wstC P m)) (hPa : ∀ en ws dp, PbOK ws (P en ws dp)) : ConOK Try.prog 47 (wblC P m) := by
  refine fn_obM tt_ok mixed Try.func47 rfl (fun _ _ => by kernel_rfl) (A := fun ds => ⟨fun _ => Cons.of [(16, wiqC), (19, wmuC), (22, wfaC), (21, (wstC P m))], fun _ => none, fun _ => none⟩) (fun _ _ => (cons_cons wiq_ok (cons_cons wmu_ok (cons_cons wfa_ok (cons_cons hP cons_nil))))) (by kernel_rfl) ?_
  intro ds
  unfold wblS
  split
  · rename_i ws nx en er pa dp
    refine kmp (q := rdOK ws nx -> dqOK ws (mR nx pa er) dp -> left ws (mR nx pa er) < m -> rdOK ws nx /\ ((isB ws obB (mR nx pa er) && decide (dp ≥ (24 : Int))) = true -> rdOK ws nx /\ (wblF P en ws dp (mR nx pa er)).fst.len = 0 /\ ws.rows = ws.rows /\ (ffR ws en (6 : Int) (mR nx pa er)).nx = (wblF P en ws dp (mR nx pa er)).snd.nx /\ en = en /\ (ffR ws en (6 : Int) (mR nx pa er)).er = (wblF P en ws dp (mR nx pa er)).snd.er /\ (ffR ws en (6 : Int) (mR nx pa er)).pa = (wblF P en ws dp (mR nx pa er)).snd.pa /\ (wblF P en ws dp (mR nx pa er)).fst.rows = []) /\ ((isB ws obB (mR nx pa er) && decide (dp ≥ (24 : Int))) = false -> rdOK ws nx /\ rdOK ws (muR ws en obB (mR nx pa er)).nx /\ dpOK ws (muR ws en obB (mR nx pa er)) (IntKind.i64.wrap (dp + 1)) /\ left ws (muR ws en obB (mR nx pa er)) < m /\ rdOK ws (P en ws (IntKind.i64.wrap (dp + 1)) (muR ws en obB (mR nx pa er))).snd.nx /\ (P en ws (IntKind.i64.wrap (dp + 1)) (muR ws en obB (mR nx pa er))).fst.len = (wblF P en ws dp (mR nx pa er)).fst.len /\ ws.rows = ws.rows /\ (muR ws en cbB (P en ws (IntKind.i64.wrap (dp + 1)) (muR ws en obB (mR nx pa er))).snd).nx = (wblF P en ws dp (mR nx pa er)).snd.nx /\ en = en /\ (muR ws en cbB (P en ws (IntKind.i64.wrap (dp + 1)) (muR ws en obB (mR nx pa er))).snd).er = (wblF P en ws dp (mR nx pa er)).snd.er /\ (muR ws en cbB (P en ws (IntKind.i64.wrap (dp + 1)) (muR ws en obB (mR nx pa er))).snd).pa = (wblF P en ws dp (mR nx pa er)).snd.pa /\ (P en ws (IntKind.i64.wrap (dp + 1)) (muR ws en obB (mR nx pa er))).fst.rows = (wblF P en ws dp (mR nx pa er)).fst.rows)) (by kernel_rfl) ?_
    intro h hd hl
    have e1 : IntKind.i64.wrap (dp + 1) = dp + 1 := wr1 hd.1 (by have := hd.2; omega)
    simp only [e1]
    obtain ⟨a, b, c, d, e⟩ := wbl_up (hPa en ws) (dp := dp) (r := mR nx pa er) h
    have f := dq_d (q := muR ws en obB (mR nx pa er)) hd b
    have g : left ws (muR ws en obB (mR nx pa er)) < m := Nat.lt_of_le_of_lt (left_le b) hl
    refine ⟨h, fun hc => ?_, fun hc => ?_⟩
    · have hc2 : isB ws obB (mR nx pa er) = true /\ 24 <= dp := by
        simp only [Bool.and_eq_true] at hc
        exact ⟨hc.1, of_decide_eq_true hc.2⟩
      have e2 : wblF P en ws dp (mR nx pa er) = (.l [], ffR ws en 6 (mR nx pa er)) := if_pos hc2
      rw [e2]
      (repeat' (with_reducible apply And.intro)) <;> first | with_reducible rfl | exact True.intro | assumption | (symm; assumption) | rfl
    · have hc2 : ¬ (isB ws obB (mR nx pa er) = true /\ 24 <= dp) := by
        intro hx
        rw [hx.1, decide_eq_true (show dp ≥ 24 from hx.2)] at hc
        cases hc
      have e2 : wblF P en ws dp (mR nx pa er) = ((P en ws (dp + 1) (muR ws en obB (mR nx pa er))).1, muR ws en cbB (P en ws (dp + 1) (muR ws en obB (mR nx pa er))).2) := if_neg hc2
      rw [e2]
      (repeat' (with_reducible apply And.intro)) <;> first | with_reducible rfl | exact True.intro | assumption | (symm; assumption) | rfl
  · trivial
end Go.Proofs.Ytbhbjhejkamlnaa.Sx.Z
namespace Go.Proofs.Ytbhbjhejkamlnaa.Sx
def cellS (s : St) (t j : Nat) : ByteArray := match look s.hp (idOf s t) with | some (.own _ l) => (match l[j]? with | some (.c (.raw (.string b))) => b | _ => ByteArray.empty) | _ => ByteArray.empty
end Go.Proofs.Ytbhbjhejkamlnaa.Sx
namespace Go.Proofs.Ytbhbjhejkamlnaa.Sx.Z
open Go.RowKit
def wiA (P : PB) (en : Int) (ws : D) (dp : Int) (r : Rd) : D × Rd := wblF P en ws dp (wcR ws en (gx r))
def wiB (P : PB) (en : Int) (ws : D) (dp : Int) (r : Rd) : D × Rd := if isB ws kwL (wiA P en ws dp r).2 = true then wblF P en ws dp (gx (wiA P en ws dp r).2) else (.l [], (wiA P en ws dp r).2)
def wiS (P : PB) (en : Int) (ws : D) (dp : Int) (r : Rd) : St := ⟨2, ByteArray.empty, ByteArray.empty, X00, wcC ws en (gx r), (wiA P en ws dp r).1, (wiB P en ws dp r).1, .l []⟩
def whA (P : PB) (en : Int) (ws : D) (dp : Int) (r : Rd) : D × Rd := wblF P en ws dp (wcR ws en (gx r))
def whS (P : PB) (en : Int) (ws : D) (dp : Int) (r : Rd) : St := ⟨3, ByteArray.empty, ByteArray.empty, X00, wcC ws en (gx r), (whA P en ws dp r).1, .l [], .l []⟩
def wd1 (ws : D) (en : Int) (r : Rd) : Rd := muR ws en doB (wnR ws en 1 (gx r))
def wdE0 (ws : D) (en : Int) (r : Rd) : Xp × Rd := wsX en ws 0 (muR ws en opB (wnR ws en 1 (wd1 ws en r)))
def wdR (ws : D) (en : Int) (r : Rd) : Rd := muR ws en seB (muR ws en clB (wdE0 ws en r).2)
def wdS (ws : D) (en : Int) (r : Rd) : St := ⟨4, wnS ws (gx r), wnS ws (wd1 ws en r), (wdE0 ws en r).1, C00, .l [], .l [], .l []⟩
def wmX (en : Int) (ws : D) (r : Rd) : Rd := muR ws en opB (wnR ws en 1 r)
def wmA (P : PB) (en : Int) (ws : D) (dp : Int) (r : Rd) : D × Rd := wblF P en ws dp (muR ws en clB (wnR ws en 1 (wmX en ws r)))
def wmS (P : PB) (en : Int) (ws : D) (dp : Int) (r : Rd) : Am := ⟨wnS ws r, wnS ws (wmX en ws r), (wmA P en ws dp r).1⟩
def wmG (ws : D) (r : Rd) : Bool := r.er == 0 && !isB ws cbB r
def wmF (P : PB) (en : Int) (ws : D) (dp : Int) (r : Rd) : List D × Rd := ((wmS P en ws dp r).row, (wmA P en ws dp r).2)
def wmL (P : PB) (en : Int) (ws : D) (dp : Int) (d : D) (r : Rd) : D × Rd := if d.len = 0 then (if r.er = 0 then seqE (wmG ws) (wmF P en ws dp) ws (.l (d.rows ++ [(wmF P en ws dp r).1])) (wmF P en ws dp r).2 else (d, r)) else seqE (wmG ws) (wmF P en ws dp) ws d r
def wv1 (ws : D) (en : Int) (r : Rd) : Rd := muR ws en obB (wnR ws en 1 (gx r))
def wvA (P : PB) (en : Int) (ws : D) (dp : Int) (r : Rd) : D × Rd := wmL P en ws dp (.l []) (wv1 ws en r)
def wvS (P : PB) (en : Int) (ws : D) (dp : Int) (r : Rd) : St := ⟨5, wnS ws (gx r), ByteArray.empty, X00, C00, .l [], .l [], (wvA P en ws dp r).1⟩
def wvR (P : PB) (en : Int) (ws : D) (dp : Int) (r : Rd) : Rd := muR ws en cbB (wvA P en ws dp r).2
def waS (ws : D) (en : Int) (r : Rd) : St := ⟨6, ByteArray.empty, ByteArray.empty, X00, wcC ws en (gx r), .l [], .l [], .l []⟩
def waR (ws : D) (en : Int) (r : Rd) : Rd := muR ws en seB (wcR ws en (gx r))
def wnI (ws : D) (_en : Int) (r : Rd) : St := ⟨7, wnS ws (gx r), ByteArray.empty, X00, C00, .l [], .l [], .l []⟩
def wnZ (ws : D) (en : Int) (r : Rd) : Rd := muR ws en seB (wnR ws en 1 (gx r))
def wgE (ws : D) (en : Int) (r : Rd) : Xp × Rd := wsX en ws 0 (muR ws en eqB (wnR ws en 1 r))
def wgS (ws : D) (en : Int) (r : Rd) : St := ⟨1, wnS ws r, ByteArray.empty, (wgE ws en r).1, C00, .l [], .l [], .l []⟩
def wgR (ws : D) (en : Int) (r : Rd) : Rd := muR ws en seB (wgE ws en r).2
def wtF (P : PB) (en : Int) (ws : D) (dp : Int) (r : Rd) : St × Rd :=
  if isB ws kwF r = true then (wiS P en ws dp r, (wiB P en ws dp r).2)
  else if isB ws kwW r = true then (whS P en ws dp r, (whA P en ws dp r).2)
  else if isB ws kwS r = true then (wdS ws en r, wdR ws en r)
  else if isB ws kwR r = true then (wvS P en ws dp r, wvR P en ws dp r)
  else if isB ws kwA r = true then (waS ws en r, waR ws en r)
  else if isB ws kwI r = true then (wnI ws en r, wnZ ws en r)
  else (wgS ws en r, wgR ws en r)
def wtH (P : PB) (en : Int) (ws : D) (dp : Int) (r : Rd) : List D × Rd := ((wtF P en ws dp r).1.row, (wtF P en ws dp r).2)
def wtG (ws : D) (r : Rd) : Bool := isB ws kwF r || isB ws kwW r || isB ws kwS r || isB ws kwR r || isB ws kwA r || isB ws kwI r || kiB ws 1 r
def wtA (P : PB) : PB := fun en ws dp r => seqA (wtG ws) (wtH P en ws dp) ws (.l []) r
def gw (r : Rd) : Rd := mR (IntKind.i64.wrap (r.nx + 1)) r.pa r.er
theorem gw_eq {ws : D} {r : Rd} (h : rdOK ws r.nx) (hl : r.nx < ws.len) : gw r = gx r := by
  unfold gw
  rw [nx1 h hl]; rfl
theorem ff_er {ws : D} {en e : Int} (he : e ≠ 0) {r : Rd} : (ffR ws en e r).er ≠ 0 := by
  unfold ffR
  split
  · exact he
  · rename_i h; exact h
theorem mu_er {ws : D} {en : Int} {t : ByteArray} {r : Rd} (h : (muR ws en t r).er = 0) : isB ws t r = true := by
  unfold muR at h
  split at h
  · rename_i hb; exact hb
  · exact absurd h (ff_er (by decide))
theorem wn_er {ws : D} {en k : Int} {r : Rd} (h : (wnR ws en k r).er = 0) : kiB ws k r = true := by
  unfold wnR at h
  split at h
  · rename_i hb; exact hb
  · exact absurd h (ff_er (by decide))
theorem wbl_er {P : PB} (hPe : ∀ en ws dp r, (P en ws dp r).2.er = 0 -> r.er = 0) {en : Int} {ws : D} {dp : Int} {r : Rd} (h : (wblF P en ws dp r).2.er = 0) : r.er = 0 := by
  unfold wblF at h
  split at h
  · exact absurd h (ff_er (by decide))
  · exact (isB_lt (mu_er (hPe _ _ _ _ (isB_lt (mu_er h)).1))).1
theorem wm_up {P : PB} {ws : D} {en : Int} (hPa : ∀ dp, PbOK ws (P en ws dp)) {dp : Int} {r : Rd} (h : rdOK ws r.nx) : rdOK ws (wnR ws en 1 r).nx /\ rdOK ws (wmX en ws r).nx /\ rdOK ws (wnR ws en 1 (wmX en ws r)).nx /\ rdOK ws (muR ws en clB (wnR ws en 1 (wmX en ws r))).nx /\ r.nx <= (muR ws en clB (wnR ws en 1 (wmX en ws r))).nx /\ rdOK ws (wmA P en ws dp r).2.nx /\ (wnR ws en 1 r).nx <= (wmA P en ws dp r).2.nx /\ r.nx <= (wmA P en ws dp r).2.nx := by
  have a := wn_up en 1 h
  have b := mu_up en (t := opB) a.1
  have c := wn_up en 1 b.1
  have d := mu_up en (t := clB) c.1
  obtain ⟨_, _, _, e1, e2⟩ := wbl_up hPa (dp := dp) d.1
  exact ⟨a.1, b.1, c.1, d.1, Int.le_trans a.2 (Int.le_trans b.2 (Int.le_trans c.2 d.2)), e1, Int.le_trans b.2 (Int.le_trans c.2 (Int.le_trans d.2 e2)), Int.le_trans a.2 (Int.le_trans b.2 (Int.le_trans c.2 (Int.le_trans d.2 e2)))⟩
theorem wm_lt {P : PB} {ws : D} {en : Int} (hPa : ∀ dp, PbOK ws (P en ws dp)) (hPe : ∀ en ws dp r, (P en ws dp r).2.er = 0 -> r.er = 0) {dp : Int} {r : Rd} (h : rdOK ws r.nx) (h0 : r.er = 0) : lfm ws (wmA P en ws dp r).2 < lfm ws r := by
  obtain ⟨_, _, _, _, _, e1, e2, _⟩ := wm_up hPa (dp := dp) h
  refine lfm_lt h0 h e1 fun hz => ?_
  have k1 := wbl_er hPe hz
  have k2 := isB_lt (mu_er (k1 : (muR ws en clB (wnR ws en 1 (wmX en ws r))).er = 0))
  have k3 := kiB_lt (wn_er k2.1)
  have k4 := isB_lt (mu_er (k3.1 : (muR ws en opB (wnR ws en 1 r)).er = 0))
  have k5 := wn_er k4.1
  have e : (wnR ws en 1 r).nx = r.nx + 1 := by rw [show wnR ws en 1 r = gx r from if_pos k5]; rfl
  omega
theorem wm_se {P : PB} {ws : D} {en : Int} (hPa : ∀ dp, PbOK ws (P en ws dp)) (hPe : ∀ en ws dp r, (P en ws dp r).2.er = 0 -> r.er = 0) (dp : Int) : SeOK ws (wmG ws) (wmF P en ws dp) := ⟨fun r h hg => by
  have h0 : r.er = 0 := by
    unfold wmG at hg
    simp only [Bool.and_eq_true] at hg
    exact eq_of_beq hg.1
  obtain ⟨_, _, _, _, _, e1, _, e3⟩ := wm_up hPa (dp := dp) h
  exact ⟨e1, e3, wm_lt hPa hPe h h0⟩⟩
theorem wmL_step {P : PB} {ws : D} {en : Int} (hPa : ∀ dp, PbOK ws (P en ws dp)) (hPe : ∀ en ws dp r, (P en ws dp r).2.er = 0 -> r.er = 0) {dp : Int} {d : D} {r : Rd} (h : rdOK ws r.nx) (h0 : r.er = 0) (hc : d.len = 0 ∨ isB ws cbB r = false) : wmL P en ws dp (.l (d.rows ++ [(wmF P en ws dp r).1])) (wmF P en ws dp r).2 = wmL P en ws dp d r := by
  have hn : (D.l (d.rows ++ [(wmF P en ws dp r).1])).len ≠ 0 := by rw [ap_len]; omega
  unfold wmL
  rw [if_neg hn]
  by_cases hz : d.len = 0
  · rw [if_pos hz, if_pos h0]
  · rw [if_neg hz]
    have hb : isB ws cbB r = false := hc.resolve_left hz
    exact se_step (wm_se hPa hPe dp) h (by unfold wmG; rw [h0, hb]; rfl)
theorem wmL_end {P : PB} {ws : D} {en dp : Int} {d : D} {r : Rd} (hc : r.er ≠ 0 ∨ (d.len ≠ 0 /\ isB ws cbB r = true)) : wmL P en ws dp d r = (d, r) := by
  have hg : wmG ws r = false := by
    unfold wmG
    rcases hc with hc | hc
    · rw [show (r.er == 0) = false from beq_false_of_ne hc]; rfl
    · rw [hc.2]; cases (r.er == 0) <;> rfl
  unfold wmL
  split
  · rename_i hz
    split
    · rename_i h0
      rcases hc with hc | hc
      · exact absurd h0 hc
      · exact absurd hz hc.1
    · rfl
  · exact se_end hg
theorem wmL_up {P : PB} {ws : D} {en : Int} (hPa : ∀ dp, PbOK ws (P en ws dp)) (hPe : ∀ en ws dp r, (P en ws dp r).2.er = 0 -> r.er = 0) {dp : Int} {d : D} {r : Rd} (h : rdOK ws r.nx) : rdOK ws (wmL P en ws dp d r).2.nx /\ r.nx <= (wmL P en ws dp d r).2.nx := by
  unfold wmL
  split
  · split
    · obtain ⟨_, _, _, _, _, e1, _, e3⟩ := wm_up hPa (dp := dp) h
      have := se_up (wm_se hPa hPe dp) (.l (d.rows ++ [(wmF P en ws dp r).1])) e1
      exact ⟨this.1, Int.le_trans e3 this.2⟩
    · exact ⟨h, Int.le_refl _⟩
  · exact se_up (wm_se hPa hPe dp) d h
theorem wi_up {P : PB} {ws : D} {en : Int} (hPa : ∀ dp, PbOK ws (P en ws dp)) {dp : Int} {r : Rd} (h : rdOK ws (gx r).nx) : rdOK ws (wcR ws en (gx r)).nx /\ (gx r).nx <= (wcR ws en (gx r)).nx /\ rdOK ws (wiA P en ws dp r).2.nx /\ (gx r).nx <= (wiA P en ws dp r).2.nx /\ rdOK ws (wiB P en ws dp r).2.nx /\ (gx r).nx <= (wiB P en ws dp r).2.nx := by
  have a := wcR_up en h
  obtain ⟨_, _, _, e1, e2⟩ := wbl_up hPa (dp := dp) a.1
  have e3 := Int.le_trans a.2 e2
  refine ⟨a.1, a.2, e1, e3, ?_⟩
  unfold wiB
  split
  · rename_i hb
    have g := gx_up e1 (isB_lt hb).2
    obtain ⟨_, _, _, f1, f2⟩ := wbl_up hPa (dp := dp) g.1
    exact ⟨f1, Int.le_trans e3 (Int.le_trans g.2 f2)⟩
  · exact ⟨e1, e3⟩
theorem wd_up {ws : D} (en : Int) {r : Rd} (h : rdOK ws (gx r).nx) : rdOK ws (wnR ws en 1 (gx r)).nx /\ rdOK ws (wd1 ws en r).nx /\ rdOK ws (wnR ws en 1 (wd1 ws en r)).nx /\ rdOK ws (muR ws en opB (wnR ws en 1 (wd1 ws en r))).nx /\ rdOK ws (wdE0 ws en r).2.nx /\ rdOK ws (muR ws en clB (wdE0 ws en r).2).nx /\ rdOK ws (wdR ws en r).nx /\ (gx r).nx <= (wdR ws en r).nx := by
  have a := wn_up en 1 h
  have b := mu_up en (t := doB) a.1
  have c := wn_up en 1 b.1
  have d := mu_up en (t := opB) c.1
  have e := (wsX_up en ws 0).up _ d.1
  have f := mu_up en (t := clB) e.2.1
  have g := mu_up en (t := seB) f.1
  exact ⟨a.1, b.1, c.1, d.1, e.2.1, f.1, g.1, Int.le_trans a.2 (Int.le_trans b.2 (Int.le_trans c.2 (Int.le_trans d.2 (Int.le_trans e.1 (Int.le_trans f.2 g.2)))))⟩
theorem wv_up {P : PB} {ws : D} {en : Int} (hPa : ∀ dp, PbOK ws (P en ws dp)) (hPe : ∀ en ws dp r, (P en ws dp r).2.er = 0 -> r.er = 0) {dp : Int} {r : Rd} (h : rdOK ws (gx r).nx) : rdOK ws (wnR ws en 1 (gx r)).nx /\ rdOK ws (wv1 ws en r).nx /\ (gx r).nx <= (wv1 ws en r).nx /\ rdOK ws (wvA P en ws dp r).2.nx /\ rdOK ws (wvR P en ws dp r).nx /\ (gx r).nx <= (wvR P en ws dp r).nx := by
  have a := wn_up en 1 h
  have b := mu_up en (t := obB) a.1
  have c := wmL_up hPa hPe (dp := dp) (d := .l []) b.1
  have d := mu_up en (t := cbB) c.1
  exact ⟨a.1, b.1, Int.le_trans a.2 b.2, c.1, d.1, Int.le_trans a.2 (Int.le_trans b.2 (Int.le_trans c.2 d.2))⟩
theorem wa_up {ws : D} (en : Int) {r : Rd} (h : rdOK ws (gx r).nx) : rdOK ws (wcR ws en (gx r)).nx /\ rdOK ws (waR ws en r).nx /\ (gx r).nx <= (waR ws en r).nx := by
  have a := wcR_up en h
  have b := mu_up en (t := seB) a.1
  exact ⟨a.1, b.1, Int.le_trans a.2 b.2⟩
theorem wz_up {ws : D} (en : Int) {r : Rd} (h : rdOK ws (gx r).nx) : rdOK ws (wnR ws en 1 (gx r)).nx /\ rdOK ws (wnZ ws en r).nx /\ (gx r).nx <= (wnZ ws en r).nx := by
  have a := wn_up en 1 h
  have b := mu_up en (t := seB) a.1
  exact ⟨a.1, b.1, Int.le_trans a.2 b.2⟩
theorem wg_up {ws : D} (en : Int) {r : Rd} (h : rdOK ws r.nx) : rdOK ws (wnR ws en 1 r).nx /\ rdOK ws (muR ws en eqB (wnR ws en 1 r)).nx /\ rdOK ws (wgE ws en r).2.nx /\ rdOK ws (wgR ws en r).nx /\ (wnR ws en 1 r).nx <= (wgR ws en r).nx := by
  have a := wn_up en 1 h
  have b := mu_up en (t := eqB) a.1
  have e := (wsX_up en ws 0).up _ b.1
  have g := mu_up en (t := seB) e.2.1
  exact ⟨a.1, b.1, e.2.1, g.1, Int.le_trans b.2 (Int.le_trans e.1 g.2)⟩
theorem wt_sq {P : PB} {ws : D} {en : Int} (hPa : ∀ dp, PbOK ws (P en ws dp)) (hPe : ∀ en ws dp r, (P en ws dp r).2.er = 0 -> r.er = 0) (dp : Int) : SqOK ws (wtG ws) (wtH P en ws dp) := ⟨fun r h hg => by
  unfold wtH wtF
  have g1 : (gx r).nx = r.nx + 1 := rfl
  by_cases k0 : isB ws kwF r = true
  · simp only [if_pos k0]
    have g := (gx_up h (isB_lt k0).2).1
    have u : rdOK ws ((wiB P en ws dp r).2).nx /\ (gx r).nx <= ((wiB P en ws dp r).2).nx := ⟨(wi_up hPa (dp := dp) g).2.2.2.2.1, (wi_up hPa (dp := dp) g).2.2.2.2.2⟩
    exact ⟨u.1, by omega⟩
  by_cases k1 : isB ws kwW r = true
  · simp only [if_neg k0, if_pos k1]
    have g := (gx_up h (isB_lt k1).2).1
    have u : rdOK ws ((whA P en ws dp r).2).nx /\ (gx r).nx <= ((whA P en ws dp r).2).nx := ⟨(wi_up hPa (dp := dp) g).2.2.1, (wi_up hPa (dp := dp) g).2.2.2.1⟩
    exact ⟨u.1, by omega⟩
  by_cases k2 : isB ws kwS r = true
  · simp only [if_neg k0, if_neg k1, if_pos k2]
    have g := (gx_up h (isB_lt k2).2).1
    have u : rdOK ws (wdR ws en r).nx /\ (gx r).nx <= (wdR ws en r).nx := ⟨(wd_up en g).2.2.2.2.2.2.1, (wd_up en g).2.2.2.2.2.2.2⟩
    exact ⟨u.1, by omega⟩
  by_cases k3 : isB ws kwR r = true
  · simp only [if_neg k0, if_neg k1, if_neg k2, if_pos k3]
    have g := (gx_up h (isB_lt k3).2).1
    have u : rdOK ws (wvR P en ws dp r).nx /\ (gx r).nx <= (wvR P en ws dp r).nx := ⟨(wv_up hPa hPe g).2.2.2.2.1, (wv_up hPa hPe g).2.2.2.2.2⟩
    exact ⟨u.1, by omega⟩
  by_cases k4 : isB ws kwA r = true
  · simp only [if_neg k0, if_neg k1, if_neg k2, if_neg k3, if_pos k4]
    have g := (gx_up h (isB_lt k4).2).1
    have u : rdOK ws (waR ws en r).nx /\ (gx r).nx <= (waR ws en r).nx := (wa_up en g).2
    exact ⟨u.1, by omega⟩
  by_cases k5 : isB ws kwI r = true
  · simp only [if_neg k0, if_neg k1, if_neg k2, if_neg k3, if_neg k4, if_pos k5]
    have g := (gx_up h (isB_lt k5).2).1
    have u : rdOK ws (wnZ ws en r).nx /\ (gx r).nx <= (wnZ ws en r).nx := (wz_up en g).2
    exact ⟨u.1, by omega⟩
  have hk : kiB ws 1 r = true := by
    simpa [wtG, k0, k1, k2, k3, k4, k5] using hg
  simp only [if_neg k0, if_neg k1, if_neg k2, if_neg k3, if_neg k4, if_neg k5]
  have u := (wg_up en h).2.2.2
  have e : (wnR ws en 1 r).nx = r.nx + 1 := by rw [show wnR ws en 1 r = gx r from if_pos hk]; rfl
  exact ⟨u.1, by omega⟩⟩
theorem wtA_up {P : PB} (hPa : ∀ en ws dp, PbOK ws (P en ws dp)) (hPe : ∀ en ws dp r, (P en ws dp r).2.er = 0 -> r.er = 0) (en : Int) (ws : D) (dp : Int) : PbOK ws (wtA P en ws dp) := ⟨fun r h => by
  have := seq_up (wt_sq (hPa en ws) hPe dp) (.l []) h
  exact ⟨this.2, this.1⟩⟩
theorem wtG_er {ws : D} {r : Rd} (h : r.er ≠ 0) : wtG ws r = false := by
  have hb : ∀ t, isB ws t r = false := fun t => by
    cases hq : isB ws t r with
    | false => rfl
    | true => exact absurd (isB_lt hq).1 h
  have hk : kiB ws 1 r = false := by
    cases hq : kiB ws 1 r with
    | false => rfl
    | true => exact absurd (kiB_lt hq).1 h
  simp only [wtG, hb, hk, Bool.or_false]
theorem wtA_er {P : PB} (en : Int) (ws : D) (dp : Int) (r : Rd) (h : (wtA P en ws dp r).2.er = 0) : r.er = 0 := by
  apply Decidable.byContradiction
  intro hn
  unfold wtA at h
  rw [seq_end (wtG_er hn)] at h
  exact hn h
end Go.Proofs.Ytbhbjhejkamlnaa.Sx.Z
namespace Go.Proofs.Ytbhbjhejkamlnaa.Sx.Z
open Go.RowKit
def r7x0 (en : Int) (ws : D) (i : D × Rd) : List D := [D.i (4 : Int), D.s (wnS ws (gw i.snd)), D.s (wnS ws (muR ws en doB (wnR ws en (1 : Int) (gw i.snd)))), D.i (wsX en ws (0 : Int) (muR ws en opB (wnR ws en (1 : Int) (muR ws en doB (wnR ws en (1 : Int) (gw i.snd)))))).fst.k, D.i (wsX en ws (0 : Int) (muR ws en opB (wnR ws en (1 : Int) (muR ws en doB (wnR ws en (1 : Int) (gw i.snd)))))).fst.n, D.s (wsX en ws (0 : Int) (muR ws en opB (wnR ws en (1 : Int) (muR ws en doB (wnR ws en (1 : Int) (gw i.snd)))))).fst.s, (wsX en ws (0 : Int) (muR ws en opB (wnR ws en (1 : Int) (muR ws en doB (wnR ws en (1 : Int) (gw i.snd)))))).fst.d.sub 0 ((0 : Nat) + (wsX en ws (0 : Int) (muR ws en opB (wnR ws en (1 : Int) (muR ws en doB (wnR ws en (1 : Int) (gw i.snd)))))).fst.d.len), D.i (0 : Int), D.i (0 : Int), D.i (0 : Int), D.s ByteArray.empty, D.l [], D.i (0 : Int), D.i (0 : Int), D.s ByteArray.empty, D.l [], D.l [], D.l [], D.l []]
def r7x1 (P : PB) (en : Int) (ws : D) (dp : Int) (i : D × Rd) : List D := [D.i (2 : Int), D.s ByteArray.empty, D.s ByteArray.empty, D.i (0 : Int), D.i (0 : Int), D.s ByteArray.empty, D.l [], D.i (wcC ws en (gw i.snd)).op, D.i (wcC ws en (gw i.snd)).l.k, D.i (wcC ws en (gw i.snd)).l.n, D.s (wcC ws en (gw i.snd)).l.s, (wcC ws en (gw i.snd)).l.d.sub 0 ((0 : Nat) + (wcC ws en (gw i.snd)).l.d.len), D.i (wcC ws en (gw i.snd)).r.k, D.i (wcC ws en (gw i.snd)).r.n, D.s (wcC ws en (gw i.snd)).r.s, (wcC ws en (gw i.snd)).r.d.sub 0 ((0 : Nat) + (wcC ws en (gw i.snd)).r.d.len), (wblF P en ws dp (wcR ws en (gw i.snd))).fst.sub 0 ((0 : Nat) + (wblF P en ws dp (wcR ws en (gw i.snd))).fst.len), (wblF P en ws dp (gw (wblF P en ws dp (wcR ws en (gw i.snd))).snd)).fst.sub 0 ((0 : Nat) + (wblF P en ws dp (gw (wblF P en ws dp (wcR ws en (gw i.snd))).snd)).fst.len), D.l []]
def r7x2 (P : PB) (en : Int) (ws : D) (dp : Int) (i : D × Rd) : List D := [D.i (2 : Int), D.s ByteArray.empty, D.s ByteArray.empty, D.i (0 : Int), D.i (0 : Int), D.s ByteArray.empty, D.l [], D.i (wcC ws en (gw i.snd)).op, D.i (wcC ws en (gw i.snd)).l.k, D.i (wcC ws en (gw i.snd)).l.n, D.s (wcC ws en (gw i.snd)).l.s, (wcC ws en (gw i.snd)).l.d.sub 0 ((0 : Nat) + (wcC ws en (gw i.snd)).l.d.len), D.i (wcC ws en (gw i.snd)).r.k, D.i (wcC ws en (gw i.snd)).r.n, D.s (wcC ws en (gw i.snd)).r.s, (wcC ws en (gw i.snd)).r.d.sub 0 ((0 : Nat) + (wcC ws en (gw i.snd)).r.d.len), (wblF P en ws dp (wcR ws en (gw i.snd))).fst.sub 0 ((0 : Nat) + (wblF P en ws dp (wcR ws en (gw i.snd))).fst.len), D.l [], D.l []]
def r7x3 (P : PB) (en : Int) (ws : D) (dp : Int) (i : D × Rd) : List D := [D.i (3 : Int), D.s ByteArray.empty, D.s ByteArray.empty, D.i (0 : Int), D.i (0 : Int), D.s ByteArray.empty, D.l [], D.i (wcC ws en (gw i.snd)).op, D.i (wcC ws en (gw i.snd)).l.k, D.i (wcC ws en (gw i.snd)).l.n, D.s (wcC ws en (gw i.snd)).l.s, (wcC ws en (gw i.snd)).l.d.sub 0 ((0 : Nat) + (wcC ws en (gw i.snd)).l.d.len), D.i (wcC ws en (gw i.snd)).r.k, D.i (wcC ws en (gw i.snd)).r.n, D.s (wcC ws en (gw i.snd)).r.s, (wcC ws en (gw i.snd)).r.d.sub 0 ((0 : Nat) + (wcC ws en (gw i.snd)).r.d.len), (wblF P en ws dp (wcR ws en (gw i.snd))).fst.sub 0 ((0 : Nat) + (wblF P en ws dp (wcR ws en (gw i.snd))).fst.len), D.l [], D.l []]
def r7x4 (en : Int) (ws : D) (i : D × Rd) : List D := [D.i (1 : Int), D.s (wnS ws i.snd), D.s ByteArray.empty, D.i (wsX en ws (0 : Int) (muR ws en eqB (wnR ws en (1 : Int) i.snd))).fst.k, D.i (wsX en ws (0 : Int) (muR ws en eqB (wnR ws en (1 : Int) i.snd))).fst.n, D.s (wsX en ws (0 : Int) (muR ws en eqB (wnR ws en (1 : Int) i.snd))).fst.s, (wsX en ws (0 : Int) (muR ws en eqB (wnR ws en (1 : Int) i.snd))).fst.d.sub 0 ((0 : Nat) + (wsX en ws (0 : Int) (muR ws en eqB (wnR ws en (1 : Int) i.snd))).fst.d.len), D.i (0 : Int), D.i (0 : Int), D.i (0 : Int), D.s ByteArray.empty, D.l [], D.i (0 : Int), D.i (0 : Int), D.s ByteArray.empty, D.l [], D.l [], D.l [], D.l []]
def r7x5 (en : Int) (ws : D) (i : D × Rd) : List D := [D.i (6 : Int), D.s ByteArray.empty, D.s ByteArray.empty, D.i (0 : Int), D.i (0 : Int), D.s ByteArray.empty, D.l [], D.i (wcC ws en (gw i.snd)).op, D.i (wcC ws en (gw i.snd)).l.k, D.i (wcC ws en (gw i.snd)).l.n, D.s (wcC ws en (gw i.snd)).l.s, (wcC ws en (gw i.snd)).l.d.sub 0 ((0 : Nat) + (wcC ws en (gw i.snd)).l.d.len), D.i (wcC ws en (gw i.snd)).r.k, D.i (wcC ws en (gw i.snd)).r.n, D.s (wcC ws en (gw i.snd)).r.s, (wcC ws en (gw i.snd)).r.d.sub 0 ((0 : Nat) + (wcC ws en (gw i.snd)).r.d.len), D.l [], D.l [], D.l []]
def r7x6 (P : PB) (en : Int) (ws : D) (dp : Int) (i_1 : D × Rd) : List D := [D.s (wnS ws i_1.snd), D.s (wnS ws (muR ws en opB (wnR ws en (1 : Int) i_1.snd))), (wblF P en ws dp (muR ws en clB (wnR ws en (1 : Int) (muR ws en opB (wnR ws en (1 : Int) i_1.snd))))).fst.sub 0 ((0 : Nat) + (wblF P en ws dp (muR ws en clB (wnR ws en (1 : Int) (muR ws en opB (wnR ws en (1 : Int) i_1.snd))))).fst.len)]
def r7x7 (ws : D) (i : D × Rd) (i_1 : D × Rd) : List D := [D.i (5 : Int), D.s (wnS ws (gw i.snd)), D.s ByteArray.empty, D.i (0 : Int), D.i (0 : Int), D.s ByteArray.empty, D.l [], D.i (0 : Int), D.i (0 : Int), D.i (0 : Int), D.s ByteArray.empty, D.l [], D.i (0 : Int), D.i (0 : Int), D.s ByteArray.empty, D.l [], D.l [], D.l [], i_1.fst.sub 0 ((0 : Nat) + i_1.fst.len)]
def r7x8 (ws : D) (i : D × Rd) : List D := [D.i (7 : Int), D.s (wnS ws (gw i.snd)), D.s ByteArray.empty, D.i (0 : Int), D.i (0 : Int), D.s ByteArray.empty, D.l [], D.i (0 : Int), D.i (0 : Int), D.i (0 : Int), D.s ByteArray.empty, D.l [], D.i (0 : Int), D.i (0 : Int), D.s ByteArray.empty, D.l [], D.l [], D.l [], D.l []]
noncomputable def wsnS (P : PB) (m : Nat) : List Dat -> Option (Eff × List Seg) := fun ds => match ds with
  | [.d ws, .i nx, .i en, .i er, .i pa, .i dp] => some ({ val := .one (.sc (.osl 52 (0) (.lit 0) (.sym ((wtA P en ws dp (mR nx pa er)).1.len)))), vc := [rdOK ws nx, dpOK ws (mR nx pa er) dp, left ws (mR nx pa er) < m + 1], nw := [(0, .orow 52 ((wtA P en ws dp (mR nx pa er)).1))] }, [.c (.rows 123 ws), .c (.int .i64 (.sym (((wtA P en ws dp (mR nx pa er)).2).nx))), .c (.int .i64 (.sym en)), .c (.int .i64 (.sym (((wtA P en ws dp (mR nx pa er)).2).er))), .c (.int .i64 (.sym (((wtA P en ws dp (mR nx pa er)).2).pa)))])
  | _ => none
noncomputable def wsnC (P : PB) (m : Nat) : Con := conM 71 [.c (.rows 123), .c (.int .i64), .c (.int .i64), .c (.int .i64), .c (.int .i64)] [.sc (.int .i64)] (wsnS P m)
theorem wsn_ok {P : PB} {m : Nat} (hP : ConOK Try.prog 21 (wstC P m)) (hPa : ∀ en ws dp, PbOK ws (P en ws dp)) (hPe : ∀ en ws dp r, (P en ws dp r).2.er = 0 -> r.er = 0) : ConOK Try.prog 21 (wsnC P m) := by
  refine fn_obM tt_ok mixed Try.func21 rfl (fun _ _ => by kernel_rfl) (A := fun ds => ⟨fun _ => Cons.of [(48, (wpaC wsX 1000001)), (47, (wblC P m)), (46, wcdC), (16, wiqC), (19, wmuC), (18, wnaC)], fun k => match k, ds with | 2, [.d ws, .i nx, .i en, .i er, .i pa, .i dp] => some { ι := D × Rd, pre := fun _ q => rdOK ws q.2.nx /\ (seqA (wtG ws) (wtH P en ws dp) ws q.1 q.2 = (wtA P en ws dp (mR nx pa er))) /\ q.1.len + left ws q.2 <= 1000001 /\ nx <= q.2.nx, μ := fun q => left ws q.2, st := fun s q => famN s [(5, .one (.sc (.osl 52 (s.nx) (.lit 0) (.sym (q.1.len)))))] [0, 1] [(0, .own 71 ([.c (.rows 123 ws), .c (.int .i64 (.sym ((q.2).nx))), .c (.int .i64 (.sym en)), .c (.int .i64 (.sym ((q.2).er))), .c (.int .i64 (.sym ((q.2).pa)))])), (s.nx, .orow 52 (q.1))] [] } | 29, [.d ws, .i nx, .i en, .i er, .i pa, .i dp] => some { ι := D × Rd, pre := fun s q => rdOK ws q.2.nx /\ (wmL P en ws dp q.1 q.2 = wmL P en ws dp (.l []) (mR (cellZ s 0 1) (cellZ s 0 4) (cellZ s 0 3))) /\ q.1.len + lfm ws q.2 <= 1000002 /\ (mR (cellZ s 0 1) (cellZ s 0 4) (cellZ s 0 3)).nx <= q.2.nx, μ := fun q => lfm ws q.2, st := fun s q => { tm := keepS s.tm [0, 1, 5, 6], hp := [(0, .own 71 ([.c (.rows 123 ws), .c (.int .i64 (.sym ((q.2).nx))), .c (.int .i64 (.sym en)), .c (.int .i64 (.sym ((q.2).er))), .c (.int .i64 (.sym ((q.2).pa)))])), (idOf s 6, .own 52 ([.c (.int .i64 (.sym (5))), .c (.raw (.string (cellS s 6 1))), .c (.raw (.string ByteArray.empty)), .c (.int .i64 (.sym 0)), .c (.int .i64 (.sym 0)), .c (.raw (.string ByteArray.empty)), .c .nils, .c (.int .i64 (.sym (0))), .c (.int .i64 (.sym 0)), .c (.int .i64 (.sym 0)), .c (.raw (.string ByteArray.empty)), .c .nils, .c (.int .i64 (.sym 0)), .c (.int .i64 (.sym 0)), .c (.raw (.string ByteArray.empty)), .c .nils, .c .nils, .c .nils, (.c (.osl 128 s.nx (.lit 0) (.sym (q.1.len))))])), (s.nx, .orow 128 (q.1))] ++ keepH s.hp ([5].map (idOf s)), nx := s.nx + 1 } } | _, _ => none, fun _ => none⟩) (fun _ _ => (cons_cons wsX_ok (cons_cons (wbl_ok hP hPa) (cons_cons wcd_ok (cons_cons wiq_ok (cons_cons wmu_ok (cons_cons wna_ok cons_nil))))))) (by kernel_rfl) ?_
  intro ds
  unfold wsnS
  split
  · rename_i ws nx en er pa dp
    refine kmp (q := rdOK ws nx -> dpOK ws (mR nx pa er) dp -> left ws (mR nx pa er) < m + 1 -> (∃ (i : D × Rd), (rdOK ws i.snd.nx /\ seqA (wtG ws) (wtH P en ws dp) ws i.fst i.snd = wtA P en ws dp (mR nx pa er) /\ i.fst.len + left ws i.snd <= 1000001 /\ nx <= i.snd.nx) /\ i.fst.len = 0 /\ dp = dp /\ ws.rows = ws.rows /\ nx = i.snd.nx /\ en = en /\ er = i.snd.er /\ pa = i.snd.pa /\ i.fst.rows = []) /\ ∀ (i : D × Rd), rdOK ws i.snd.nx /\ seqA (wtG ws) (wtH P en ws dp) ws i.fst i.snd = wtA P en ws dp (mR nx pa er) /\ i.fst.len + left ws i.snd <= 1000001 /\ nx <= i.snd.nx -> ((i.snd.er == (0 : Int)) = true -> rdOK ws i.snd.nx /\ (isB ws kwF i.snd = true -> rdOK ws (IntKind.i64.wrap (i.snd.nx + 1)) /\ rdOK ws (wcR ws en (gw i.snd)).nx /\ dqOK ws (wcR ws en (gw i.snd)) dp /\ left ws (wcR ws en (gw i.snd)) < m /\ rdOK ws (wblF P en ws dp (wcR ws en (gw i.snd))).snd.nx /\ (isB ws kwL (wblF P en ws dp (wcR ws en (gw i.snd))).snd = true -> rdOK ws (IntKind.i64.wrap ((wblF P en ws dp (wcR ws en (gw i.snd))).snd.nx + 1)) /\ dqOK ws (gw (wblF P en ws dp (wcR ws en (gw i.snd))).snd) dp /\ left ws (gw (wblF P en ws dp (wcR ws en (gw i.snd))).snd) < m /\ 0 + (wcC ws en (gw i.snd)).l.d.len <= (wcC ws en (gw i.snd)).l.d.len /\ 0 + (wcC ws en (gw i.snd)).r.d.len <= (wcC ws en (gw i.snd)).r.d.len /\ 0 + (wblF P en ws dp (wcR ws en (gw i.snd))).fst.len <= (wblF P en ws dp (wcR ws en (gw i.snd))).fst.len /\ 0 + (wblF P en ws dp (gw (wblF P en ws dp (wcR ws en (gw i.snd))).snd)).fst.len <= (wblF P en ws dp (gw (wblF P en ws dp (wcR ws en (gw i.snd))).snd)).fst.len /\ i.fst.len = i.fst.len /\ (i.fst.len + ((D.l [(r7x1 P en ws dp i)]).sub 0 ((0 : Nat) + (1 : Nat))).len) * 288 <= 140737488355328 /\ 0 + 1 <= (D.l [(r7x1 P en ws dp i)]).len /\ ∃ (j : D × Rd), (rdOK ws j.snd.nx /\ seqA (wtG ws) (wtH P en ws dp) ws j.fst j.snd = wtA P en ws dp (mR nx pa er) /\ j.fst.len + left ws j.snd <= 1000001 /\ nx <= j.snd.nx) /\ left ws j.snd < left ws i.snd /\ i.fst.len + ((D.l [(r7x1 P en ws dp i)]).sub 0 ((0 : Nat) + (1 : Nat))).len = j.fst.len /\ dp = dp /\ ws.rows = ws.rows /\ (wblF P en ws dp (gw (wblF P en ws dp (wcR ws en (gw i.snd))).snd)).snd.nx = j.snd.nx /\ en = en /\ (wblF P en ws dp (gw (wblF P en ws dp (wcR ws en (gw i.snd))).snd)).snd.er = j.snd.er /\ (wblF P en ws dp (gw (wblF P en ws dp (wcR ws en (gw i.snd))).snd)).snd.pa = j.snd.pa /\ i.fst.rows ++ List.drop 0 (List.take ((0 : Nat) + (1 : Nat)) [(r7x1 P en ws dp i)]) = j.fst.rows) /\ (isB ws kwL (wblF P en ws dp (wcR ws en (gw i.snd))).snd = false -> 0 + (wcC ws en (gw i.snd)).l.d.len <= (wcC ws en (gw i.snd)).l.d.len /\ 0 + (wcC ws en (gw i.snd)).r.d.len <= (wcC ws en (gw i.snd)).r.d.len /\ 0 + (wblF P en ws dp (wcR ws en (gw i.snd))).fst.len <= (wblF P en ws dp (wcR ws en (gw i.snd))).fst.len /\ i.fst.len = i.fst.len /\ (i.fst.len + ((D.l [(r7x2 P en ws dp i)]).sub 0 ((0 : Nat) + (1 : Nat))).len) * 288 <= 140737488355328 /\ 0 + 1 <= (D.l [(r7x2 P en ws dp i)]).len /\ ∃ (j : D × Rd), (rdOK ws j.snd.nx /\ seqA (wtG ws) (wtH P en ws dp) ws j.fst j.snd = wtA P en ws dp (mR nx pa er) /\ j.fst.len + left ws j.snd <= 1000001 /\ nx <= j.snd.nx) /\ left ws j.snd < left ws i.snd /\ i.fst.len + ((D.l [(r7x2 P en ws dp i)]).sub 0 ((0 : Nat) + (1 : Nat))).len = j.fst.len /\ dp = dp /\ ws.rows = ws.rows /\ (wblF P en ws dp (wcR ws en (gw i.snd))).snd.nx = j.snd.nx /\ en = en /\ (wblF P en ws dp (wcR ws en (gw i.snd))).snd.er = j.snd.er /\ (wblF P en ws dp (wcR ws en (gw i.snd))).snd.pa = j.snd.pa /\ i.fst.rows ++ List.drop 0 (List.take ((0 : Nat) + (1 : Nat)) [(r7x2 P en ws dp i)]) = j.fst.rows)) /\ (isB ws kwF i.snd = false -> rdOK ws i.snd.nx /\ (isB ws kwW i.snd = true -> rdOK ws (IntKind.i64.wrap (i.snd.nx + 1)) /\ rdOK ws (wcR ws en (gw i.snd)).nx /\ dqOK ws (wcR ws en (gw i.snd)) dp /\ left ws (wcR ws en (gw i.snd)) < m /\ 0 + (wcC ws en (gw i.snd)).l.d.len <= (wcC ws en (gw i.snd)).l.d.len /\ 0 + (wcC ws en (gw i.snd)).r.d.len <= (wcC ws en (gw i.snd)).r.d.len /\ 0 + (wblF P en ws dp (wcR ws en (gw i.snd))).fst.len <= (wblF P en ws dp (wcR ws en (gw i.snd))).fst.len /\ i.fst.len = i.fst.len /\ (i.fst.len + ((D.l [(r7x3 P en ws dp i)]).sub 0 ((0 : Nat) + (1 : Nat))).len) * 288 <= 140737488355328 /\ 0 + 1 <= (D.l [(r7x3 P en ws dp i)]).len /\ ∃ (j : D × Rd), (rdOK ws j.snd.nx /\ seqA (wtG ws) (wtH P en ws dp) ws j.fst j.snd = wtA P en ws dp (mR nx pa er) /\ j.fst.len + left ws j.snd <= 1000001 /\ nx <= j.snd.nx) /\ left ws j.snd < left ws i.snd /\ i.fst.len + ((D.l [(r7x3 P en ws dp i)]).sub 0 ((0 : Nat) + (1 : Nat))).len = j.fst.len /\ dp = dp /\ ws.rows = ws.rows /\ (wblF P en ws dp (wcR ws en (gw i.snd))).snd.nx = j.snd.nx /\ en = en /\ (wblF P en ws dp (wcR ws en (gw i.snd))).snd.er = j.snd.er /\ (wblF P en ws dp (wcR ws en (gw i.snd))).snd.pa = j.snd.pa /\ i.fst.rows ++ List.drop 0 (List.take ((0 : Nat) + (1 : Nat)) [(r7x3 P en ws dp i)]) = j.fst.rows) /\ (isB ws kwW i.snd = false -> rdOK ws i.snd.nx /\ (isB ws kwS i.snd = true -> rdOK ws (IntKind.i64.wrap (i.snd.nx + 1)) /\ rdOK ws (wnR ws en (1 : Int) (gw i.snd)).nx /\ rdOK ws (muR ws en doB (wnR ws en (1 : Int) (gw i.snd))).nx /\ rdOK ws (wnR ws en (1 : Int) (muR ws en doB (wnR ws en (1 : Int) (gw i.snd)))).nx /\ rdOK ws (muR ws en opB (wnR ws en (1 : Int) (muR ws en doB (wnR ws en (1 : Int) (gw i.snd))))).nx /\ dpOK ws (muR ws en opB (wnR ws en (1 : Int) (muR ws en doB (wnR ws en (1 : Int) (gw i.snd))))) (0 : Int) /\ left ws (muR ws en opB (wnR ws en (1 : Int) (muR ws en doB (wnR ws en (1 : Int) (gw i.snd))))) < 1000001 /\ rdOK ws (wsX en ws (0 : Int) (muR ws en opB (wnR ws en (1 : Int) (muR ws en doB (wnR ws en (1 : Int) (gw i.snd)))))).snd.nx /\ rdOK ws (muR ws en clB (wsX en ws (0 : Int) (muR ws en opB (wnR ws en (1 : Int) (muR ws en doB (wnR ws en (1 : Int) (gw i.snd)))))).snd).nx /\ 0 + (wsX en ws (0 : Int) (muR ws en opB (wnR ws en (1 : Int) (muR ws en doB (wnR ws en (1 : Int) (gw i.snd)))))).fst.d.len <= (wsX en ws (0 : Int) (muR ws en opB (wnR ws en (1 : Int) (muR ws en doB (wnR ws en (1 : Int) (gw i.snd)))))).fst.d.len /\ i.fst.len = i.fst.len /\ (i.fst.len + ((D.l [(r7x0 en ws i)]).sub 0 ((0 : Nat) + (1 : Nat))).len) * 288 <= 140737488355328 /\ 0 + 1 <= (D.l [(r7x0 en ws i)]).len /\ ∃ (j : D × Rd), (rdOK ws j.snd.nx /\ seqA (wtG ws) (wtH P en ws dp) ws j.fst j.snd = wtA P en ws dp (mR nx pa er) /\ j.fst.len + left ws j.snd <= 1000001 /\ nx <= j.snd.nx) /\ left ws j.snd < left ws i.snd /\ i.fst.len + ((D.l [(r7x0 en ws i)]).sub 0 ((0 : Nat) + (1 : Nat))).len = j.fst.len /\ dp = dp /\ ws.rows = ws.rows /\ (muR ws en seB (muR ws en clB (wsX en ws (0 : Int) (muR ws en opB (wnR ws en (1 : Int) (muR ws en doB (wnR ws en (1 : Int) (gw i.snd)))))).snd)).nx = j.snd.nx /\ en = en /\ (muR ws en seB (muR ws en clB (wsX en ws (0 : Int) (muR ws en opB (wnR ws en (1 : Int) (muR ws en doB (wnR ws en (1 : Int) (gw i.snd)))))).snd)).er = j.snd.er /\ (muR ws en seB (muR ws en clB (wsX en ws (0 : Int) (muR ws en opB (wnR ws en (1 : Int) (muR ws en doB (wnR ws en (1 : Int) (gw i.snd)))))).snd)).pa = j.snd.pa /\ i.fst.rows ++ List.drop 0 (List.take ((0 : Nat) + (1 : Nat)) [(r7x0 en ws i)]) = j.fst.rows) /\ (isB ws kwS i.snd = false -> rdOK ws i.snd.nx /\ (isB ws kwR i.snd = true -> rdOK ws (IntKind.i64.wrap (i.snd.nx + 1)) /\ rdOK ws (wnR ws en (1 : Int) (gw i.snd)).nx /\ (∃ (i_1 : D × Rd), (rdOK ws i_1.snd.nx /\ wmL P en ws dp i_1.fst i_1.snd = wmL P en ws dp (D.l []) (muR ws en obB (wnR ws en (1 : Int) (gw i.snd))) /\ i_1.fst.len + lfm ws i_1.snd <= 1000002 /\ (muR ws en obB (wnR ws en (1 : Int) (gw i.snd))).nx <= i_1.snd.nx) /\ dp = dp /\ i.fst.len = i.fst.len /\ ws.rows = ws.rows /\ (muR ws en obB (wnR ws en (1 : Int) (gw i.snd))).nx = i_1.snd.nx /\ en = en /\ (muR ws en obB (wnR ws en (1 : Int) (gw i.snd))).er = i_1.snd.er /\ (muR ws en obB (wnR ws en (1 : Int) (gw i.snd))).pa = i_1.snd.pa /\ (5 : Int) = (5 : Int) /\ Value.string (wnS ws (gw i.snd)) = Value.string (wnS ws (gw i.snd)) /\ Value.string ByteArray.empty = Value.string ByteArray.empty /\ (0 : Int) = (0 : Int) /\ (0 : Int) = (0 : Int) /\ Value.string ByteArray.empty = Value.string ByteArray.empty /\ (0 : Int) = (0 : Int) /\ (0 : Int) = (0 : Int) /\ (0 : Int) = (0 : Int) /\ Value.string ByteArray.empty = Value.string ByteArray.empty /\ (0 : Int) = (0 : Int) /\ (0 : Int) = (0 : Int) /\ Value.string ByteArray.empty = Value.string ByteArray.empty /\ i_1.fst.len = 0 /\ i_1.fst.rows = [] /\ i.fst.rows = i.fst.rows) /\ ∀ (i_1 : D × Rd), rdOK ws i_1.snd.nx /\ wmL P en ws dp i_1.fst i_1.snd = wmL P en ws dp (D.l []) (muR ws en obB (wnR ws en (1 : Int) (gw i.snd))) /\ i_1.fst.len + lfm ws i_1.snd <= 1000002 /\ (muR ws en obB (wnR ws en (1 : Int) (gw i.snd))).nx <= i_1.snd.nx -> (((↑i_1.fst.len : Int) == (0 : Int)) = false /\ (i_1.snd.er == (0 : Int)) = true /\ True -> rdOK ws i_1.snd.nx) /\ ((i_1.snd.er == (0 : Int) && ((↑i_1.fst.len : Int) == (0 : Int) || !isB ws cbB i_1.snd)) = true -> rdOK ws i_1.snd.nx /\ rdOK ws (wnR ws en (1 : Int) i_1.snd).nx /\ rdOK ws (muR ws en opB (wnR ws en (1 : Int) i_1.snd)).nx /\ rdOK ws (wnR ws en (1 : Int) (muR ws en opB (wnR ws en (1 : Int) i_1.snd))).nx /\ rdOK ws (muR ws en clB (wnR ws en (1 : Int) (muR ws en opB (wnR ws en (1 : Int) i_1.snd)))).nx /\ dqOK ws (muR ws en clB (wnR ws en (1 : Int) (muR ws en opB (wnR ws en (1 : Int) i_1.snd)))) dp /\ left ws (muR ws en clB (wnR ws en (1 : Int) (muR ws en opB (wnR ws en (1 : Int) i_1.snd)))) < m /\ 0 + (wblF P en ws dp (muR ws en clB (wnR ws en (1 : Int) (muR ws en opB (wnR ws en (1 : Int) i_1.snd))))).fst.len <= (wblF P en ws dp (muR ws en clB (wnR ws en (1 : Int) (muR ws en opB (wnR ws en (1 : Int) i_1.snd))))).fst.len /\ i_1.fst.len = i_1.fst.len /\ (i_1.fst.len + ((D.l [(r7x6 P en ws dp i_1)]).sub 0 ((0 : Nat) + (1 : Nat))).len) * 56 <= 140737488355328 /\ 0 + 1 <= (D.l [(r7x6 P en ws dp i_1)]).len /\ ∃ (j : D × Rd), (rdOK ws j.snd.nx /\ wmL P en ws dp j.fst j.snd = wmL P en ws dp (D.l []) (muR ws en obB (wnR ws en (1 : Int) (gw i.snd))) /\ j.fst.len + lfm ws j.snd <= 1000002 /\ (muR ws en obB (wnR ws en (1 : Int) (gw i.snd))).nx <= j.snd.nx) /\ lfm ws j.snd < lfm ws i_1.snd /\ dp = dp /\ i.fst.len = i.fst.len /\ ws.rows = ws.rows /\ (wblF P en ws dp (muR ws en clB (wnR ws en (1 : Int) (muR ws en opB (wnR ws en (1 : Int) i_1.snd))))).snd.nx = j.snd.nx /\ en = en /\ (wblF P en ws dp (muR ws en clB (wnR ws en (1 : Int) (muR ws en opB (wnR ws en (1 : Int) i_1.snd))))).snd.er = j.snd.er /\ (wblF P en ws dp (muR ws en clB (wnR ws en (1 : Int) (muR ws en opB (wnR ws en (1 : Int) i_1.snd))))).snd.pa = j.snd.pa /\ (5 : Int) = (5 : Int) /\ Value.string (wnS ws (gw i.snd)) = Value.string (wnS ws (gw i.snd)) /\ Value.string ByteArray.empty = Value.string ByteArray.empty /\ (0 : Int) = (0 : Int) /\ (0 : Int) = (0 : Int) /\ Value.string ByteArray.empty = Value.string ByteArray.empty /\ (0 : Int) = (0 : Int) /\ (0 : Int) = (0 : Int) /\ (0 : Int) = (0 : Int) /\ Value.string ByteArray.empty = Value.string ByteArray.empty /\ (0 : Int) = (0 : Int) /\ (0 : Int) = (0 : Int) /\ Value.string ByteArray.empty = Value.string ByteArray.empty /\ i_1.fst.len + ((D.l [(r7x6 P en ws dp i_1)]).sub 0 ((0 : Nat) + (1 : Nat))).len = j.fst.len /\ i_1.fst.rows ++ List.drop 0 (List.take ((0 : Nat) + (1 : Nat)) [(r7x6 P en ws dp i_1)]) = j.fst.rows /\ i.fst.rows = i.fst.rows) /\ ((i_1.snd.er == (0 : Int) && ((↑i_1.fst.len : Int) == (0 : Int) || !isB ws cbB i_1.snd)) = false -> rdOK ws i_1.snd.nx /\ 0 + i_1.fst.len <= i_1.fst.len /\ i.fst.len = i.fst.len /\ (i.fst.len + ((D.l [(r7x7 ws i i_1)]).sub 0 ((0 : Nat) + (1 : Nat))).len) * 288 <= 140737488355328 /\ 0 + 1 <= (D.l [(r7x7 ws i i_1)]).len /\ ∃ (j : D × Rd), (rdOK ws j.snd.nx /\ seqA (wtG ws) (wtH P en ws dp) ws j.fst j.snd = wtA P en ws dp (mR nx pa er) /\ j.fst.len + left ws j.snd <= 1000001 /\ nx <= j.snd.nx) /\ left ws j.snd < left ws i.snd /\ i.fst.len + ((D.l [(r7x7 ws i i_1)]).sub 0 ((0 : Nat) + (1 : Nat))).len = j.fst.len /\ dp = dp /\ ws.rows = ws.rows /\ (muR ws en cbB i_1.snd).nx = j.snd.nx /\ en = en /\ (muR ws en cbB i_1.snd).er = j.snd.er /\ (muR ws en cbB i_1.snd).pa = j.snd.pa /\ i.fst.rows ++ List.drop 0 (List.take ((0 : Nat) + (1 : Nat)) [(r7x7 ws i i_1)]) = j.fst.rows)) /\ (isB ws kwR i.snd = false -> rdOK ws i.snd.nx /\ (isB ws kwA i.snd = true -> rdOK ws (IntKind.i64.wrap (i.snd.nx + 1)) /\ rdOK ws (wcR ws en (gw i.snd)).nx /\ 0 + (wcC ws en (gw i.snd)).l.d.len <= (wcC ws en (gw i.snd)).l.d.len /\ 0 + (wcC ws en (gw i.snd)).r.d.len <= (wcC ws en (gw i.snd)).r.d.len /\ i.fst.len = i.fst.len /\ (i.fst.len + ((D.l [(r7x5 en ws i)]).sub 0 ((0 : Nat) + (1 : Nat))).len) * 288 <= 140737488355328 /\ 0 + 1 <= (D.l [(r7x5 en ws i)]).len /\ ∃ (j : D × Rd), (rdOK ws j.snd.nx /\ seqA (wtG ws) (wtH P en ws dp) ws j.fst j.snd = wtA P en ws dp (mR nx pa er) /\ j.fst.len + left ws j.snd <= 1000001 /\ nx <= j.snd.nx) /\ left ws j.snd < left ws i.snd /\ i.fst.len + ((D.l [(r7x5 en ws i)]).sub 0 ((0 : Nat) + (1 : Nat))).len = j.fst.len /\ dp = dp /\ ws.rows = ws.rows /\ (muR ws en seB (wcR ws en (gw i.snd))).nx = j.snd.nx /\ en = en /\ (muR ws en seB (wcR ws en (gw i.snd))).er = j.snd.er /\ (muR ws en seB (wcR ws en (gw i.snd))).pa = j.snd.pa /\ i.fst.rows ++ List.drop 0 (List.take ((0 : Nat) + (1 : Nat)) [(r7x5 en ws i)]) = j.fst.rows) /\ (isB ws kwA i.snd = false -> rdOK ws i.snd.nx /\ (isB ws kwI i.snd = true -> rdOK ws (IntKind.i64.wrap (i.snd.nx + 1)) /\ rdOK ws (wnR ws en (1 : Int) (gw i.snd)).nx /\ i.fst.len = i.fst.len /\ (i.fst.len + ((D.l [(r7x8 ws i)]).sub 0 ((0 : Nat) + (1 : Nat))).len) * 288 <= 140737488355328 /\ 0 + 1 <= (D.l [(r7x8 ws i)]).len /\ ∃ (j : D × Rd), (rdOK ws j.snd.nx /\ seqA (wtG ws) (wtH P en ws dp) ws j.fst j.snd = wtA P en ws dp (mR nx pa er) /\ j.fst.len + left ws j.snd <= 1000001 /\ nx <= j.snd.nx) /\ left ws j.snd < left ws i.snd /\ i.fst.len + ((D.l [(r7x8 ws i)]).sub 0 ((0 : Nat) + (1 : Nat))).len = j.fst.len /\ dp = dp /\ ws.rows = ws.rows /\ (muR ws en seB (wnR ws en (1 : Int) (gw i.snd))).nx = j.snd.nx /\ en = en /\ (muR ws en seB (wnR ws en (1 : Int) (gw i.snd))).er = j.snd.er /\ (muR ws en seB (wnR ws en (1 : Int) (gw i.snd))).pa = j.snd.pa /\ i.fst.rows ++ List.drop 0 (List.take ((0 : Nat) + (1 : Nat)) [(r7x8 ws i)]) = j.fst.rows) /\ (isB ws kwI i.snd = false -> (decide (i.snd.nx < (↑ws.len : Int)) = true /\ True -> (0 : Int) <= i.snd.nx /\ i.snd.nx < (↑ws.len : Int)) /\ ((decide (i.snd.nx < (↑ws.len : Int)) && (ws.el i.snd.nx.toNat ((0 : Nat) + (0 : Nat))).toI == (1 : Int)) = true -> rdOK ws i.snd.nx /\ rdOK ws (wnR ws en (1 : Int) i.snd).nx /\ rdOK ws (muR ws en eqB (wnR ws en (1 : Int) i.snd)).nx /\ dpOK ws (muR ws en eqB (wnR ws en (1 : Int) i.snd)) (0 : Int) /\ left ws (muR ws en eqB (wnR ws en (1 : Int) i.snd)) < 1000001 /\ rdOK ws (wsX en ws (0 : Int) (muR ws en eqB (wnR ws en (1 : Int) i.snd))).snd.nx /\ 0 + (wsX en ws (0 : Int) (muR ws en eqB (wnR ws en (1 : Int) i.snd))).fst.d.len <= (wsX en ws (0 : Int) (muR ws en eqB (wnR ws en (1 : Int) i.snd))).fst.d.len /\ i.fst.len = i.fst.len /\ (i.fst.len + ((D.l [(r7x4 en ws i)]).sub 0 ((0 : Nat) + (1 : Nat))).len) * 288 <= 140737488355328 /\ 0 + 1 <= (D.l [(r7x4 en ws i)]).len /\ ∃ (j : D × Rd), (rdOK ws j.snd.nx /\ seqA (wtG ws) (wtH P en ws dp) ws j.fst j.snd = wtA P en ws dp (mR nx pa er) /\ j.fst.len + left ws j.snd <= 1000001 /\ nx <= j.snd.nx) /\ left ws j.snd < left ws i.snd /\ i.fst.len + ((D.l [(r7x4 en ws i)]).sub 0 ((0 : Nat) + (1 : Nat))).len = j.fst.len /\ dp = dp /\ ws.rows = ws.rows /\ (muR ws en seB (wsX en ws (0 : Int) (muR ws en eqB (wnR ws en (1 : Int) i.snd))).snd).nx = j.snd.nx /\ en = en /\ (muR ws en seB (wsX en ws (0 : Int) (muR ws en eqB (wnR ws en (1 : Int) i.snd))).snd).er = j.snd.er /\ (muR ws en seB (wsX en ws (0 : Int) (muR ws en eqB (wnR ws en (1 : Int) i.snd))).snd).pa = j.snd.pa /\ i.fst.rows ++ List.drop 0 (List.take ((0 : Nat) + (1 : Nat)) [(r7x4 en ws i)]) = j.fst.rows) /\ ((decide (i.snd.nx < (↑ws.len : Int)) && (ws.el i.snd.nx.toNat ((0 : Nat) + (0 : Nat))).toI == (1 : Int)) = false -> i.fst.len = (wtA P en ws dp (mR nx pa er)).fst.len /\ ws.rows = ws.rows /\ i.snd.nx = (wtA P en ws dp (mR nx pa er)).snd.nx /\ en = en /\ i.snd.er = (wtA P en ws dp (mR nx pa er)).snd.er /\ i.snd.pa = (wtA P en ws dp (mR nx pa er)).snd.pa /\ i.fst.rows = (wtA P en ws dp (mR nx pa er)).fst.rows)))))))) /\ ((i.snd.er == (0 : Int)) = false -> i.fst.len = (wtA P en ws dp (mR nx pa er)).fst.len /\ ws.rows = ws.rows /\ i.snd.nx = (wtA P en ws dp (mR nx pa er)).snd.nx /\ en = en /\ i.snd.er = (wtA P en ws dp (mR nx pa er)).snd.er /\ i.snd.pa = (wtA P en ws dp (mR nx pa er)).snd.pa /\ i.fst.rows = (wtA P en ws dp (mR nx pa er)).fst.rows)) (by kernel_rfl) ?_
    delta r7x0 r7x1 r7x2 r7x3 r7x4 r7x5 r7x6 r7x7 r7x8
    intro h hd hl
    refine ⟨⟨(.l [], mR nx pa er), ⟨h, rfl, (by show 0 + left ws (mR nx pa er) <= 1000001; have := (lf_lt (r := mR nx pa er) h).2; omega), Int.le_refl _⟩, (by (repeat' (with_reducible apply And.intro)) <;> first | with_reducible rfl | exact True.intro | assumption | (symm; assumption) | rfl)⟩, ?_⟩
    rintro q ⟨h1, h2, h3, h4⟩
    have l1 := left_le (ws := ws) (r := mR nx pa er) (q := q.2) h4
    have hd2 : dpOK ws q.2 dp := ⟨hd.1, by have := hd.2; omega⟩
    have lm : left ws q.2 < m + 1 := Nat.lt_of_le_of_lt l1 hl
    have z : ∀ n : Nat, 0 + n <= n := fun n => Nat.le_of_eq (Nat.zero_add n)
    have zb : (q.1.len + 1) * 288 <= 140737488355328 := by omega
    have fin : ∀ (x : St) (r' : Rd), wtF P en ws dp q.2 = (x, r') -> wtG ws q.2 = true -> (rdOK ws r'.nx /\ seqA (wtG ws) (wtH P en ws dp) ws (.l (q.1.rows ++ [x.row])) r' = wtA P en ws dp (mR nx pa er) /\ (D.l (q.1.rows ++ [x.row])).len + left ws r' <= 1000001 /\ nx <= r'.nx) /\ left ws r' < left ws q.2 := by
      intro x r' e hg
      obtain ⟨u1, u2⟩ := (wt_sq (hPa en ws) hPe dp).up q.2 h1 hg
      have hs := seq_step (wt_sq (hPa en ws) hPe dp) (d := q.1) h1 hg
      have e2 : wtH P en ws dp q.2 = (x.row, r') := by unfold wtH; rw [e]
      rw [e2] at u1 u2 hs
      have u3 := lt_left u1 h1 u2
      exact ⟨⟨u1, hs.trans h2, (by rw [ap_len]; have u4 : left ws r' < left ws q.2 := u3; omega), Int.le_trans h4 (Int.le_of_lt u2)⟩, u3⟩
    have e3 : mR (q.2.nx + 1) q.2.pa q.2.er = gx q.2 := rfl
    have e5 : (gx q.2).nx = q.2.nx + 1 := rfl
    refine ⟨fun h0 => ?_, fun h0 => ?_⟩
    rotate_left
    · have h0 : q.2.er ≠ 0 := ne_of_beq_false h0
      have h2 : (q.1, q.2) = wtA P en ws dp (mR nx pa er) := (seq_end (wtG_er h0)).symm.trans h2
      rw [← h2]
      (repeat' (with_reducible apply And.intro)) <;> first | with_reducible rfl | exact True.intro | assumption | (symm; assumption) | rfl
    have h0 : q.2.er = 0 := eq_of_beq h0
    refine ⟨h1, fun k0 => ?_, fun k0 => ?_⟩
    · have hlt := (isB_lt k0).2
      rw [gw_eq h1 hlt, nx1 h1 hlt]
      obtain ⟨g1, g2⟩ := gx_ok h1 hlt
      have hG : wtG ws q.2 = true := by simp only [wtG, k0, Bool.true_or, Bool.or_true]
      obtain ⟨a1, a2, a3, a4, a5, a6⟩ := wi_up (hPa en ws) (dp := dp) (r := q.2) g1
      have dq : dqOK ws (wcR ws en (gx q.2)) dp /\ left ws (wcR ws en (gx q.2)) < left ws q.2 := dp_q hd2 h1 hlt (by omega)
      have d1 := dq.1
      have d2 : left ws (wcR ws en (gx q.2)) < m := by have := dq.2; omega
      have a3 : rdOK ws (wblF P en ws dp (wcR ws en (gx q.2))).2.nx := a3
      have w2 := (wbl_up (hPa en ws) (dp := dp) a1).2.2.2.2
      refine ⟨g1, a1, d1, d2, a3, fun kl => ?_, fun kl => ?_⟩
      · have hl2 := (isB_lt kl).2
        rw [gw_eq a3 hl2, nx1 a3 hl2]
        have g4 := gx_up a3 hl2
        have w3 := Int.le_trans w2 g4.2
        have d3 := dq_le d1 w3
        have d4 := Nat.lt_of_le_of_lt (left_le (ws := ws) w3) d2
        have eB : wiB P en ws dp q.2 = wblF P en ws dp (gx (wblF P en ws dp (wcR ws en (gx q.2))).2) := if_pos kl
        have hF : wtF P en ws dp q.2 = (⟨2, ByteArray.empty, ByteArray.empty, X00, wcC ws en (gx q.2), (wblF P en ws dp (wcR ws en (gx q.2))).1, (wblF P en ws dp (gx (wblF P en ws dp (wcR ws en (gx q.2))).2)).1, .l []⟩, (wblF P en ws dp (gx (wblF P en ws dp (wcR ws en (gx q.2))).2)).2) := (if_pos k0).trans (by unfold wiS; rw [eB]; rfl)
        obtain ⟨f1, f2⟩ := fin _ _ hF hG
        refine ⟨g4.1, d3, d4, z _, z _, z _, z _, rfl, zb, Nat.le_refl 1, (.l (q.1.rows ++ [St.row _]), _), f1, f2, ?_⟩
        simp only [subAll]
        (repeat' (with_reducible apply And.intro)) <;> first | with_reducible rfl | exact True.intro | exact (ap_len _ _).symm | rfl
      · have eB : wiB P en ws dp q.2 = (.l [], (wblF P en ws dp (wcR ws en (gx q.2))).2) := if_neg (fun hx => by rw [show isB ws kwL (wiA P en ws dp q.2).2 = false from kl] at hx; cases hx)
        have hF : wtF P en ws dp q.2 = (⟨2, ByteArray.empty, ByteArray.empty, X00, wcC ws en (gx q.2), (wblF P en ws dp (wcR ws en (gx q.2))).1, .l [], .l []⟩, (wblF P en ws dp (wcR ws en (gx q.2))).2) := (if_pos k0).trans (by unfold wiS; rw [eB]; rfl)
        obtain ⟨f1, f2⟩ := fin _ _ hF hG
        refine ⟨z _, z _, z _, rfl, zb, Nat.le_refl 1, (.l (q.1.rows ++ [St.row _]), _), f1, f2, ?_⟩
        simp only [subAll]
        (repeat' (with_reducible apply And.intro)) <;> first | with_reducible rfl | exact True.intro | exact (ap_len _ _).symm | rfl
    have n0 : ¬ isB ws kwF q.2 = true := by rw [k0]; decide
    refine ⟨h1, fun k1 => ?_, fun k1 => ?_⟩
    · have hlt := (isB_lt k1).2
      rw [gw_eq h1 hlt, nx1 h1 hlt]
      obtain ⟨g1, g2⟩ := gx_ok h1 hlt
      have hG : wtG ws q.2 = true := by simp only [wtG, k1, Bool.true_or, Bool.or_true]
      have hF : wtF P en ws dp q.2 = (whS P en ws dp q.2, (whA P en ws dp q.2).2) := (if_neg n0).trans (if_pos k1)
      obtain ⟨f1, f2⟩ := fin _ _ hF hG
      obtain ⟨a1, a2, a3, a4, a5, a6⟩ := wi_up (hPa en ws) (dp := dp) (r := q.2) g1
      have dq : dqOK ws (wcR ws en (gx q.2)) dp /\ left ws (wcR ws en (gx q.2)) < left ws q.2 := dp_q hd2 h1 hlt (by omega)
      have d1 := dq.1
      have d2 : left ws (wcR ws en (gx q.2)) < m := by have := dq.2; omega
      refine ⟨g1, a1, d1, d2, z _, z _, z _, rfl, zb, Nat.le_refl 1, (.l (q.1.rows ++ [St.row (whS P en ws dp q.2)]), (whA P en ws dp q.2).2), f1, f2, ?_⟩
      simp only [subAll]
      (repeat' (with_reducible apply And.intro)) <;> first | with_reducible rfl | exact True.intro | exact (ap_len _ _).symm | rfl
    have n1 : ¬ isB ws kwW q.2 = true := by rw [k1]; decide
    refine ⟨h1, fun k2 => ?_, fun k2 => ?_⟩
    · have hlt := (isB_lt k2).2
      rw [gw_eq h1 hlt, nx1 h1 hlt]
      obtain ⟨g1, g2⟩ := gx_ok h1 hlt
      have hG : wtG ws q.2 = true := by simp only [wtG, k2, Bool.true_or, Bool.or_true]
      have hF : wtF P en ws dp q.2 = (wdS ws en q.2, wdR ws en q.2) := (if_neg n0).trans ((if_neg n1).trans (if_pos k2))
      obtain ⟨f1, f2⟩ := fin _ _ hF hG
      obtain ⟨b1, b2, b3, b4, b5, b6, b7, b8⟩ := wd_up en (r := q.2) g1
      refine ⟨g1, b1, b2, b3, b4, (lf_lt b4).1, (lf_lt b4).2, b5, b6, z _, rfl, zb, Nat.le_refl 1, (.l (q.1.rows ++ [St.row (wdS ws en q.2)]), wdR ws en q.2), f1, f2, ?_⟩
      simp only [subAll]
      (repeat' (with_reducible apply And.intro)) <;> first | with_reducible rfl | exact True.intro | exact (ap_len _ _).symm | rfl
    have n2 : ¬ isB ws kwS q.2 = true := by rw [k2]; decide
    refine ⟨h1, fun k3 => ?_, fun k3 => ?_⟩
    · have hlt := (isB_lt k3).2
      rw [gw_eq h1 hlt, nx1 h1 hlt]
      obtain ⟨g1, g2⟩ := gx_ok h1 hlt
      have hG : wtG ws q.2 = true := by simp only [wtG, k3, Bool.true_or, Bool.or_true]
      obtain ⟨b1, b2, b3, b4, b5, b6⟩ := wv_up (hPa en ws) hPe (dp := dp) (r := q.2) g1
      refine ⟨g1, b1, ⟨(.l [], muR ws en obB (wnR ws en 1 (gx q.2))), ⟨b2, rfl, (by show 0 + lfm ws (wv1 ws en q.2) <= 1000002; have := lfm_le ws b2; omega), Int.le_refl _⟩, (by (repeat' (with_reducible apply And.intro)) <;> first | with_reducible rfl | exact True.intro | assumption | (symm; assumption) | rfl)⟩, ?_⟩
      rintro p ⟨p1, p2, p3, p4⟩
      refine ⟨fun _ => p1, fun hc => ?_, fun hc => ?_⟩
      · have c0 : p.2.er = 0 /\ (p.1.len = 0 ∨ isB ws cbB p.2 = false) := by
          simp only [Bool.and_eq_true, Bool.or_eq_true, beq_iff_eq, Bool.not_eq_true'] at hc
          exact ⟨hc.1, hc.2.imp (fun x => by omega) id⟩
        obtain ⟨m1, m2, m3, m4, m5, m6, m7, m8⟩ := wm_up (hPa en ws) (dp := dp) p1
        have b3 : (gx q.2).nx <= (wv1 ws en q.2).nx := b3
        have p4 : (wv1 ws en q.2).nx <= p.2.nx := p4
        have dq := dp_q (q := muR ws en clB (wnR ws en 1 (wmX en ws p.2))) hd2 h1 hlt (by omega)
        have d1 := dq.1
        have d2 : left ws (muR ws en clB (wnR ws en 1 (wmX en ws p.2))) < m := by have := dq.2; omega
        have s := wmL_step (hPa en ws) hPe (dp := dp) (d := p.1) p1 c0.1 c0.2
        have lt := wm_lt (hPa en ws) hPe (dp := dp) p1 c0.1
        have lt2 : lfm ws (wmF P en ws dp p.2).2 < lfm ws p.2 := lt
        have hl3 : (D.l (p.1.rows ++ [(wmF P en ws dp p.2).1])).len + lfm ws (wmF P en ws dp p.2).2 <= 1000002 := by rw [ap_len]; omega
        refine ⟨p1, m1, m2, m3, m4, d1, d2, z _, rfl, (by show (p.1.len + 1) * 56 <= 140737488355328; omega), Nat.le_refl 1, (.l (p.1.rows ++ [(wmF P en ws dp p.2).1]), (wmF P en ws dp p.2).2), ⟨m6, s.trans p2, hl3, Int.le_trans p4 m8⟩, lt, ?_⟩
        simp only [subAll]
        (repeat' (with_reducible apply And.intro)) <;> first | with_reducible rfl | exact True.intro | exact (ap_len _ _).symm | rfl
      · have c0 : p.2.er ≠ 0 ∨ (p.1.len ≠ 0 /\ isB ws cbB p.2 = true) := by
          simp only [Bool.and_eq_false_iff, Bool.or_eq_false_iff, beq_eq_false_iff_ne, Bool.not_eq_false'] at hc
          exact hc.imp id (fun x => ⟨by have := x.1; omega, x.2⟩)
        have eA : (p.1, p.2) = wvA P en ws dp q.2 := (wmL_end c0).symm.trans p2
        have hF : wtF P en ws dp q.2 = (⟨5, wnS ws (gx q.2), ByteArray.empty, X00, C00, .l [], .l [], p.1⟩, muR ws en cbB p.2) := (if_neg n0).trans ((if_neg n1).trans ((if_neg n2).trans ((if_pos k3).trans (by unfold wvS wvR; rw [← eA]))))
        obtain ⟨f1, f2⟩ := fin _ _ hF hG
        refine ⟨p1, z _, rfl, zb, Nat.le_refl 1, (.l (q.1.rows ++ [St.row _]), _), f1, f2, ?_⟩
        simp only [subAll]
        (repeat' (with_reducible apply And.intro)) <;> first | with_reducible rfl | exact True.intro | exact (ap_len _ _).symm | rfl
    have n3 : ¬ isB ws kwR q.2 = true := by rw [k3]; decide
    refine ⟨h1, fun k4 => ?_, fun k4 => ?_⟩
    · have hlt := (isB_lt k4).2
      rw [gw_eq h1 hlt, nx1 h1 hlt]
      obtain ⟨g1, g2⟩ := gx_ok h1 hlt
      have hG : wtG ws q.2 = true := by simp only [wtG, k4, Bool.true_or, Bool.or_true]
      have hF : wtF P en ws dp q.2 = (waS ws en q.2, waR ws en q.2) := (if_neg n0).trans ((if_neg n1).trans ((if_neg n2).trans ((if_neg n3).trans (if_pos k4))))
      obtain ⟨f1, f2⟩ := fin _ _ hF hG
      obtain ⟨a1, a2, a3⟩ := wa_up en (r := q.2) g1
      refine ⟨g1, a1, z _, z _, rfl, zb, Nat.le_refl 1, (.l (q.1.rows ++ [St.row (waS ws en q.2)]), waR ws en q.2), f1, f2, ?_⟩
      simp only [subAll]
      (repeat' (with_reducible apply And.intro)) <;> first | with_reducible rfl | exact True.intro | exact (ap_len _ _).symm | rfl
    have n4 : ¬ isB ws kwA q.2 = true := by rw [k4]; decide
    refine ⟨h1, fun k5 => ?_, fun k5 => ?_⟩
    · have hlt := (isB_lt k5).2
      rw [gw_eq h1 hlt, nx1 h1 hlt]
      obtain ⟨g1, g2⟩ := gx_ok h1 hlt
      have hG : wtG ws q.2 = true := by simp only [wtG, k5, Bool.true_or, Bool.or_true]
      have hF : wtF P en ws dp q.2 = (wnI ws en q.2, wnZ ws en q.2) := (if_neg n0).trans ((if_neg n1).trans ((if_neg n2).trans ((if_neg n3).trans ((if_neg n4).trans (if_pos k5)))))
      obtain ⟨f1, f2⟩ := fin _ _ hF hG
      obtain ⟨a1, a2, a3⟩ := wz_up en (r := q.2) g1
      refine ⟨g1, a1, rfl, zb, Nat.le_refl 1, (.l (q.1.rows ++ [St.row (wnI ws en q.2)]), wnZ ws en q.2), f1, f2, ?_⟩
      simp only [subAll]
      (repeat' (with_reducible apply And.intro)) <;> first | with_reducible rfl | exact True.intro | exact (ap_len _ _).symm | rfl
    have n5 : ¬ isB ws kwI q.2 = true := by rw [k5]; decide
    refine ⟨fun hx => ⟨h1.1, of_decide_eq_true hx.1⟩, fun hc => ?_, fun hc => ?_⟩
    · have hk : kiB ws 1 q.2 = true := (ki_yes ws 1 q.2.nx q.2.pa q.2.er).symm.trans (by simp only [Bool.and_eq_true] at hc ⊢; exact ⟨⟨by rw [h0]; rfl, hc.1⟩, hc.2⟩)
      have hF : wtF P en ws dp q.2 = (wgS ws en q.2, wgR ws en q.2) := (if_neg n0).trans ((if_neg n1).trans ((if_neg n2).trans ((if_neg n3).trans ((if_neg n4).trans (if_neg n5)))))
      obtain ⟨f1, f2⟩ := fin _ _ hF (by simp only [wtG, hk, Bool.or_true])
      obtain ⟨b1, b2, b3, b4, b5⟩ := wg_up en h1
      refine ⟨h1, b1, b2, (lf_lt b2).1, (lf_lt b2).2, b3, z _, rfl, zb, Nat.le_refl 1, (.l (q.1.rows ++ [St.row (wgS ws en q.2)]), wgR ws en q.2), f1, f2, ?_⟩
      simp only [subAll]
      (repeat' (with_reducible apply And.intro)) <;> first | with_reducible rfl | exact True.intro | exact (ap_len _ _).symm | rfl
    · have hk : kiB ws 1 q.2 = false := (ki_yes ws 1 q.2.nx q.2.pa q.2.er).symm.trans (by rw [show (q.2.er == 0) = true by rw [h0]; rfl, Bool.true_and]; exact hc)
      have hg : wtG ws q.2 = false := by simp only [wtG, k0, k1, k2, k3, k4, k5, hk, Bool.or_false]
      have h2 : (q.1, q.2) = wtA P en ws dp (mR nx pa er) := (seq_end hg).symm.trans h2
      rw [← h2]
      (repeat' (with_reducible apply And.intro)) <;> first | with_reducible rfl | exact True.intro | assumption | (symm; assumption) | rfl
  · trivial
end Go.Proofs.Ytbhbjhejkamlnaa.Sx.Z
