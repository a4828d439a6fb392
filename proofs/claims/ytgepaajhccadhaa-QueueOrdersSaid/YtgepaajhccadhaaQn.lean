/-
  queue's None and Send, each by one contract.
-/
import Derived.Test.YtgepaajhccadhaaQm
import Derived.Test.YtgepaajhccadhaaQf
namespace Go.Proofs.Ytgepaajhccadhaa
open Go.RowKit
/-- An Elem of so many tags is told, of one's own. -/
def ElemOutN (t : TypeId) (w : World) (l h : Int) (n : Nat) (xs : List (Int × Int)) (e : Ending) (w' : World) : Prop := ∃ g cap, e = .returned (.agg #[.int .i64 l, .int .i64 h, .slice (some ⟨g, 0, none⟩) n cap]) ∧ ElemAt w' w.heap.size t g cap xs ∧ Below w.heap.size w w'
theorem elem_outN {w w' : World} {l h : Int} {n : Nat} {xs : List (Int × Int)} {e : Ending} (hm : xs.length = n) (hh : ElemOut w l h xs e w') : ElemOutN 25 w l h n xs e w' := by
  subst hm
  exact hh
theorem none_n (ck cs cf ct : Int) (R : Option Addr) (rn rc n : Nat) (hn : n = 1 ∨ n = 2 ∨ n = 3 ∨ n = 4) (w : World) :
    Calls Try.prog 12 #[.agg #[.int .i64 ck, .int .i64 cs, .int .i64 cf, .int .i64 ct, .int .i64 (n : Int), .slice R rn rc]] w (ElemOutN 25 w 0 0 n (List.replicate n (1, 0))) := by
  rcases hn with rfl | rfl | rfl | rfl
  · exact (none_1 ck cs cf ct R rn rc w).mono fun _ _ h => elem_outN (by simp) h
  · exact (none_2 ck cs cf ct R rn rc w).mono fun _ _ h => elem_outN (by simp) h
  · exact (none_3 ck cs cf ct R rn rc w).mono fun _ _ h => elem_outN (by simp) h
  · exact (none_4 ck cs cf ct R rn rc w).mono fun _ _ h => elem_outN (by simp) h
theorem sendP_no {cs l h : Int} {xs : List (Int × Int)} {tag i0 i1 : Int} (hb : i1 < i0 ∨ tag < 0 ∨ (xs.length : Int) ≤ tag) : sendP cs l h xs tag i0 i1 = ((l, h), xs) := if_pos hb
theorem getD_of {xs : List (Int × Int)} {k : Nat} {p0 p1 : Int} (h : xs[k]? = some (p0, p1)) : xs.getD k (1, 0) = (p0, p1) := by rw [List.getD, h]; rfl
theorem sendP_yes {cs l h : Int} {xs : List (Int × Int)} {k : Nat} {i0 i1 p0 p1 : Int} (hi : i0 ≤ i1) (hk : k < xs.length) (hp : xs[k]? = some (p0, p1)) : sendP cs l h xs (k : Int) i0 i1 = (ofP 0 (moreP h cs), xs.set k (joinP p0 p1 i0 i1)) := by
  unfold sendP
  rw [if_neg (by omega), Int.toNat_natCast, getD_of hp]
theorem sendP_len (cs l h : Int) (xs : List (Int × Int)) (tag i0 i1 : Int) : (sendP cs l h xs tag i0 i1).2.length = xs.length := by
  unfold sendP
  split
  · rfl
  · simp
theorem send_any (ck cs cf ct l h tag i0 i1 o0 o1 : Int) (R : Option Addr) (rn rc b c base n : Nat) (xs ys : List (Int × Int)) (w : World) (hm : xs.length = n) (hn : 0 < n) (hs : n ≤ 1000) (hx : ElemAt w base 25 b c xs) (hh : -9223372036854775808 ≤ h) (hc : cs ≤ 9223372036854775807) (hr : sendP cs l h xs tag i0 i1 = ((o0, o1), ys)) :
    Calls Try.prog 13 #[.agg #[.int .i64 ck, .int .i64 cs, .int .i64 cf, .int .i64 ct, .int .i64 (n : Int), .slice R rn rc], .agg #[.int .i64 l, .int .i64 h, .slice (some ⟨b, 0, none⟩) n c], .int .i64 tag, .agg #[.int .i64 i0, .int .i64 i1]] w (ElemOutN 25 w o0 o1 n ys) := by
  have hl := sendP_len cs l h xs tag i0 i1
  rw [hr, hm] at hl
  by_cases hi : i1 < i0
  · rw [sendP_no (.inl hi)] at hr
    cases hr
    exact (send_no1 ck cs cf ct l h tag i0 i1 R rn rc b c base n xs w hm hn hs hx hi).mono fun _ _ h => elem_outN hm h
  · by_cases ht : tag < 0 ∨ (n : Int) ≤ tag
    · rw [sendP_no (.inr (by rw [hm]; exact ht))] at hr
      cases hr
      exact (send_no2 ck cs cf ct l h tag i0 i1 R rn rc b c base n xs w hm hn hs hx (by omega) ht).mono fun _ _ h => elem_outN hm h
    · obtain ⟨k, rfl⟩ : ∃ k : Nat, tag = (k : Int) := ⟨tag.toNat, by omega⟩
      have hk : k < n := by omega
      obtain ⟨p0, p1, hp⟩ := pair_at hm hk
      rw [sendP_yes (by omega) (by omega) hp] at hr
      injection hr with h1 h2
      subst h2
      exact (send_yes ck cs cf ct l h i0 i1 p0 p1 (joinP p0 p1 i0 i1).1 (joinP p0 p1 i0 i1).2 o0 o1 R rn rc b c base n k xs w hm hn hs hx (by omega) hk hp hh hc rfl h1).mono fun _ _ h => elem_outN (by simp [hm]) h
end Go.Proofs.Ytgepaajhccadhaa
