/-
  lex.Lex: for every text that fits into memory it tells just the words, the place and the error that lexR says; nothing that was there is changed.
-/
import Derived.Test.YtbhbjhejkamlnaaWordAt
import Derived.Laws.OwnMore
namespace Go.Proofs.Ytbhbjhejkamlnaa
open Go.RowKit

/-- Words as cells of memory. -/
def tcells (ts : List Tok) : List Value := ts.flatMap fun t => [.int .i64 t.kind, .string t.text, .int .i64 t.num, .int .i64 t.pos]
theorem tcells_len (ts : List Tok) : (tcells ts).length = ts.length * 4 := by
  induction ts with
  | nil => rfl
  | cons a t ih => simp [tcells] at ih ⊢; omega
theorem tcells_snoc (ts : List Tok) (t : Tok) : tcells (ts ++ [t]) = tcells ts ++ [.int .i64 t.kind, .string t.text, .int .i64 t.num, .int .i64 t.pos] := by simp [tcells]

theorem own_below {B base : Nat} {e : TypeId} {size n : Nat} {v : Value} {xs : List Value} {w w' : World} (h : w.ownsRow base e size v n xs) (hb : Below B w w') (hB : ∀ g, v.ownBlock = some g → g < B) : w'.ownsRow base e size v n xs := by
  refine ⟨h.1, ?_⟩
  rcases h.2 with h0 | ⟨g, cap, cur, rfl, hg, hh, h1⟩
  · exact .inl h0
  · exact .inr ⟨g, cap, cur, rfl, hg, (hb.block g (hB g rfl)).trans hh, h1⟩
theorem own_later {base : Nat} {e : TypeId} {size n : Nat} {v : Value} {xs : List Value} {w w' : World} (h : w.ownsRow base e size v n xs) (hb : Below w.heap.size w w') : w'.ownsRow base e size v n xs :=
  own_below h hb fun g hg => (h.lt g hg).2

theorem below_new {B : Nat} {a w : World} (h : Below B a w) (hB : B ≤ a.heap.size) (o : Obj) : Below B a (w.alloc o) := h.alloc (Nat.le_trans hB h.size) o

theorem own_form {base : Nat} {e : TypeId} {size n : Nat} {v : Value} {xs : List Value} {w : World} (h : w.ownsRow base e size v n xs) (hn : 0 < n) : ∃ g cap, v = .slice (some ⟨g, 0, none⟩) n cap := by
  rcases h.2 with ⟨_, h0⟩ | ⟨g, cap, _, hv, _⟩
  · omega
  · exact ⟨g, cap, hv⟩
theorem cells_new (w : World) (t : TypeId) (l : List Value) : ∀ j u, l[j]? = some u → (w.alloc (.cells l.toArray t)).cell? ((⟨w.heap.size, 0, none⟩ : Addr).add j) = some u := by
  intro j u hu
  have h := cell_of_row (w.alloc (.cells l.toArray t)) w.heap.size j l.toArray t (0, 0) (heap_alloc_new w _)
  rw [show (⟨w.heap.size, 0, none⟩ : Addr).add j = ⟨w.heap.size, j, none⟩ from by unfold Addr.add; split <;> simp_all, h]
  simpa using hu
theorem tk_few {acc : List Tok} {t : Tok} (h : (acc.take 2001).length ≤ 2000) : acc.take 2001 = acc ∧ (acc ++ [t]).take 2001 = acc ++ [t] := by
  rw [List.length_take] at h
  exact ⟨List.take_of_length_le (by omega), List.take_of_length_le (by rw [List.length_append]; simp; omega)⟩
theorem tk_many {acc : List Tok} {t : Tok} (h : ¬ (acc.take 2001).length ≤ 2000) : (acc ++ [t]).take 2001 = acc.take 2001 := by
  rw [List.length_take] at h
  exact List.take_append_of_le_length (by omega)

def LexPost (s : ByteArray) (w : World) (e : Ending) (w' : World) : Prop :=
  ∃ A c, e = .returned (.tuple #[.slice A (lexR s).1.length c, .int .i64 ((lexR s).2.1 : Nat), .int .i64 (lexR s).2.2]) ∧
    w'.ownsRow w.heap.size 115 4 (.slice A (lexR s).1.length c) (lexR s).1.length (tcells (lexR s).1) ∧ Below w.heap.size w w'

theorem info_tok : (Try.prog.info? 115).map (fun i => (i.zero, i.size, i.bytes)) = some (some (.agg #[.int .i64 0, .string ⟨#[]⟩, .int .i64 0, .int .i64 0]), 4, 40) := by kernel_rfl

theorem lexR_err {s : ByteArray} {R : Except (Nat × Int) (List Tok)} (h : lexGo s s.size 0 [] = R) {p : Nat} {x : Int} (hR : R = .error (p, x)) : lexR s = ([], p, x) := by unfold lexR; rw [h, hR]
theorem lexR_long {s : ByteArray} {R : Except (Nat × Int) (List Tok)} (h : lexGo s s.size 0 [] = R) {acc : List Tok} (hR : R = .ok acc) (hl : 2000 < acc.length) : lexR s = ([], s.size, 4) := by unfold lexR; rw [h, hR]; simp [hl]
theorem lexR_ok {s : ByteArray} {R : Except (Nat × Int) (List Tok)} (h : lexGo s s.size 0 [] = R) {acc : List Tok} (hR : R = .ok acc) (hl : acc.length ≤ 2000) : lexR s = (acc, 0, 0) := by unfold lexR; rw [h, hR]; simp; omega

theorem LexPost.bad {s : ByteArray} {w w' : World} {p : Nat} {x : Int} (h : lexR s = ([], p, x)) (hb : Below w.heap.size w w') : LexPost s w (.returned (.tuple #[.slice none 0 0, .int .i64 p, .int .i64 x])) w' := by
  unfold LexPost
  rw [h]
  exact ⟨none, 0, rfl, World.ownsRow_nil _ _ _ _, hb⟩
theorem LexPost.good {s : ByteArray} {w w' : World} {A : Option Addr} {n c : Nat} {acc : List Tok} (h : lexR s = (acc, 0, 0)) (hn : n = acc.length) (ho : w'.ownsRow w.heap.size 115 4 (.slice A n c) n (tcells acc)) (hb : Below w.heap.size w w') :
    LexPost s w (.returned (.tuple #[.slice A n c, .int .i64 0, .int .i64 0])) w' := by
  unfold LexPost
  rw [h]
  subst hn
  exact ⟨A, c, rfl, ho, hb⟩

set_option maxRecDepth 100000 in
set_option maxHeartbeats 4000000 in
theorem lex_any (s : ByteArray) (w : World) (hs : s.size ≤ 140737488351232) :
    Calls Try.prog 13 #[.string s] w fun e w' => LexPost s w e w' := by
  have hs' : s.size ≤ maxLen := by unfold maxLen; omega
  obtain ⟨i0, hi, hz0, hz1, hz2⟩ := info_parts info_tok
  obtain ⟨R, hR⟩ : ∃ R, lexGo s s.size 0 [] = R := ⟨_, rfl⟩
  have HR := Lib.hid hR
  go_enter Try.func13, Try.ntmps13
  go_wp2_with fail
  go_loopw [5, 6] (fun v i wr => ∃ (p f : Nat) (acc : List Tok) (A : Option Addr) (n c : Nat), p ≤ s.size ∧ s.size ≤ p + f ∧ lexGo s f p acc = R ∧ n = (acc.take 2001).length ∧ i = .int .i64 p ∧ v = .slice A n c ∧
      wr.ownsRow w.heap.size 115 4 (.slice A n c) n (tcells (acc.take 2001)) ∧ Below w.heap.size w wr)
    (fun _ i _ => s.size - (intOf i).toNat)
  case atStart => exact ⟨0, s.size, [], none, 0, 0, by omega, by omega, hR, rfl, rfl, rfl, World.ownsRow_nil _ _ _ _, Below.refl _ _⟩
  case round =>
    obtain ⟨p, f, acc, A, n, c, hp, hf, hgo, hn, rfl, rfl, hown, hbw⟩ := hrel
    clear hR
    have Hn := Lib.hid hn
    have hn1 : n ≤ 2001 := by rw [hn, List.length_take]; omega
    clear hn
    have Hgo := Lib.hid hgo
    clear hgo
    by_cases hlt : p < s.size
    · have hgd := getD_eq s p hlt
      rcases Bool.eq_false_or_eq_true (gapB (s[p].toNat : Int)) with hg | hg
      · have Hst := Lib.hid (go_gap hlt (by rw [hgd]; exact hg) hf Hgo.out)
        clear hgd
        go_wp2_with (first | (go_at_call 34; refine (gap_any _ _).mono ?_; rintro e w' ⟨rfl, rfl⟩) | fail)
        go_roundw
        case rel =>
          obtain ⟨f', hf', hgo'⟩ := Hst.out
          exact ⟨p + 1, f', acc, A, n, c, by omega, hf', hgo', Hn.out, by go_num, rfl, hown, hbw⟩
        case measure => simp [intOf]; omega
      · have hgU : gapU (s.data.toList.getD p 0) = false := by rw [hgd]; exact hg
        rcases hE : wordE (s.data.toList.drop p) with x | ⟨k, m, num⟩
        · have Hfin := Lib.hid (lexR_err HR.out (go_err hlt hgU hE hf Hgo.out))
          have HE := Lib.hid hE
          have hx0 : (x != 0) = true := by rw [bne_iff_ne]; have := wordE_err hE; omega
          clear hE hgd hgU
          go_wp2_with (first | (go_at_call 34; refine (gap_any _ _).mono ?_; rintro e w' ⟨rfl, rfl⟩) | fail)
          refine (wordAt_err s p _ hs' hlt HE.out).mono ?_
          rintro e w1 ⟨rfl, hb⟩
          go_wp2_with fail
          go_ret3
          exact LexPost.bad Hfin.out ((hbw.trans (hb.mono hbw.size)).alloc (by have := hb.size; have := hbw.size; omega) _)
        · have hlen : (s.data.toList.drop p).length = s.size - p := by simp
          obtain ⟨hm1, hm2, hnum1, hnum2, hk1, hk2⟩ := wordE_ok (by rw [hlen]; omega) hE
          rw [hlen] at hm2
          have Hst := Lib.hid (go_word hlt hgU hE hf hm1 Hgo.out)
          have HE := Lib.hid hE
          obtain ⟨T, hT⟩ : ∃ T, s.extract p (p + m) = T := ⟨_, rfl⟩
          have hTs : T.size = m := by rw [← hT]; simp; omega
          have HT := Lib.hid hT
          clear hE hgd hgU hlen hT
          by_cases hn2 : n ≤ 2000
          · go_wp2_with (first | (go_at_call 34; refine (gap_any _ _).mono ?_; rintro e w' ⟨rfl, rfl⟩) | fail)
            refine (wordAt_ok s p _ hs' hlt HT.out HE.out).mono ?_
            rintro e w1 ⟨rfl, hb⟩
            go_wp2_with fail
            refine (clone_any T _ (by omega)).mono ?_
            rintro e w2 ⟨rfl, hb2⟩
            obtain ⟨hc, hfz⟩ := bcell hb2
            have hz : w1.heap.size < w2.heap.size := by have := hb2.size; simp at this; omega
            have hB1 : Below wr.heap.size wr w2 := (hb.alloc hb.size _).trans (hb2.mono (by have := hb.size; simp; omega))
            go_wp2_with (at_builtin; go_loud (refine wpList_append_own _ rfl (.tmp 41) (.tmp 43) _ rfl w.heap.size 115 i0 _ 4 40 Try.underlying60 hi hz0 hz1 hz2 rfl (by decide) (.slice A n c) n _ rfl (own_later hown (below_new (hB1.setCell hb.size _) (Nat.le_refl _) _)) ⟨w2.heap.size, 0, none⟩ 1 1 [.int .i64 k, .string T, .int .i64 num, .int .i64 p] rfl rfl ?c1 ?c2 ?c3 ?c4 ?c5 ?_))
            case c1 =>
              have e : w2.heap.size = (w2.setCell ⟨w1.heap.size, 1, none⟩ (.string T)).heap.size := by simp
              rw [e]
              exact cells_new _ _ _
            case c2 =>
              intro u hu
              simp at hu
              rcases hu with rfl | rfl | rfl | rfl <;> rfl
            case c3 => unfold maxLen; omega
            case c4 => omega
            case c5 => have := hB1.size; have := hbw.size; simp; omega
            intro v' w3 hown' hgrow _
            obtain ⟨g, cap, hv⟩ := own_form hown' (by omega)
            obtain ⟨ht1, ht2⟩ := tk_few (t := ⟨k, T, num, p⟩) (by rw [← Hn.out]; exact hn2)
            have Hv := Lib.hid hv
            have Ht := Lib.hid ht2
            have Hl : Hid (n + 1 = ((acc ++ [(⟨k, T, num, p⟩ : Tok)]).take 2001).length) := by
              show n + 1 = _
              rw [ht2, List.length_append, ← ht1, ← Hn.out]
              rfl
            have hown2 : w3.ownsRow w.heap.size 115 4 (.slice (some ⟨g, 0, none⟩) (n + 1) cap) (n + 1) (tcells ((acc ++ [(⟨k, T, num, p⟩ : Tok)]).take 2001)) := by
              rw [ht2, tcells_snoc, ← hv, ← ht1]
              exact hown'
            have hB3 : Below w.heap.size w w3 := (hbw.trans ((below_new (hB1.setCell hb.size _) (Nat.le_refl _) _).mono hbw.size)).grown hgrow (by have := hB1.size; have := hbw.size; simp; omega) (fun b hb => (hown.lt b hb).1)
            clear hv ht1 ht2 hown' hgrow hown hc hfz
            go_wp2_with fail
            go_roundw
            case rel =>
              obtain ⟨f', hf', hgo'⟩ := Hst.out
              exact ⟨p + m, f', acc ++ [(⟨k, T, num, p⟩ : Tok)], some ⟨g, 0, none⟩, n + 1, cap, by omega, hf', by rw [← HT.out]; exact hgo', Hl, by go_num, Hv.out, hown2, hB3⟩
            case measure => simp [intOf]; omega
          · have Ht := Lib.hid (tk_many (t := ⟨k, s.extract p (p + m), num, p⟩) (show ¬ (acc.take 2001).length ≤ 2000 by rw [← Hn.out]; exact hn2))
            go_wp2_with (first | (go_at_call 34; refine (gap_any _ _).mono ?_; rintro e w' ⟨rfl, rfl⟩) | fail)
            refine (wordAt_ok s p _ hs' hlt HT.out HE.out).mono ?_
            rintro e w1 ⟨rfl, hb⟩
            have hB3 : Below w.heap.size w (w1.alloc (.cells #[.int .i64 k, .string T, .int .i64 num, .int .i64 p] 115)) := below_new (hbw.trans (hb.mono hbw.size)) (Nat.le_refl _) _
            have hown3 := own_later hown (below_new hb (Nat.le_refl _) (.cells #[.int .i64 k, .string T, .int .i64 num, .int .i64 p] 115))
            clear hown
            go_wp2_with fail
            go_roundw
            case rel =>
              obtain ⟨f', hf', hgo'⟩ := Hst.out
              exact ⟨p + m, f', acc ++ [(⟨k, s.extract p (p + m), num, p⟩ : Tok)], A, n, c, by omega, hf', hgo', by rw [Ht.out]; exact Hn.out, by go_num, rfl, by rw [Ht.out]; exact hown3, hB3⟩
            case measure => simp [intOf]; omega
    · have hend := go_end (by omega) Hgo.out
      by_cases hn2 : n ≤ 2000
      · obtain ⟨ht1, -⟩ := tk_few (t := ⟨0, ⟨#[]⟩, 0, 0⟩) (show (acc.take 2001).length ≤ 2000 by rw [← Hn.out]; exact hn2)
        have hn3 : n = acc.length := by rw [Hn.out, ht1]
        have Hfin := Lib.hid (lexR_ok HR.out hend (by omega))
        rw [ht1] at hown
        have Hn3 := Lib.hid hn3
        clear ht1 hend hn3
        go_wp2_with fail
        go_ret3
        exact LexPost.good Hfin.out Hn3.out hown hbw
      · have hl : 2000 < acc.length := by
          have h1 := Hn.out
          rw [List.length_take] at h1
          omega
        have Hfin := Lib.hid (lexR_long HR.out hend hl)
        clear hend hl
        go_wp2_with fail
        go_ret3
        exact LexPost.bad Hfin.out hbw
end Go.Proofs.Ytbhbjhejkamlnaa
