/-
  The reference's None and Send, and From, each by one contract.
-/
import Derived.Test.YtgepaajhccadhaaQn
import Derived.Test.YtgepaajhccadhaaQj
namespace Go.Proofs.Ytgepaajhccadhaa
open Go.RowKit
theorem relem_outN {w w' : World} {l h : Int} {n : Nat} {xs : List (Int × Int)} {e : Ending} (hm : xs.length = n) (hh : RElemOut w l h xs e w') : ElemOutN 29 w l h n xs e w' := by
  subst hm
  exact hh
theorem rnone_n (n : Nat) (w : World) (hn : 0 < n) (hs : n ≤ 1000) : Calls Try.prog 29 #[.int .i64 (n : Int)] w (ElemOutN 29 w 0 0 n (List.replicate n (1, 0))) := (rnone_any n w hn hs).mono fun _ _ h => relem_outN (by simp) h
theorem from_out (l h : Int) (b c base n : Nat) (xs : List (Int × Int)) (w : World) (hm : xs.length = n) (hn : 0 < n) (hs : n ≤ 1000) (hx : ElemAt w base 25 b c xs) :
    Calls Try.prog 20 #[.agg #[.int .i64 l, .int .i64 h, .slice (some ⟨b, 0, none⟩) n c]] w (ElemOutN 29 w l h n xs) := (from_n l h b c base n xs w hm hn hs hx).mono fun _ _ h => relem_outN hm h
/-- What the reference tells behind a message more. -/
def rsendP (cs l h : Int) (xs : List (Int × Int)) (tag i0 i1 : Int) : (Int × Int) × List (Int × Int) := if i1 < i0 ∨ tag < 0 ∨ (xs.length : Int) ≤ tag then ((l, h), xs) else ((0, if cs < h + 1 then cs else h + 1), xs.set tag.toNat (rjoinP (xs.getD tag.toNat (1, 0)).1 (xs.getD tag.toNat (1, 0)).2 i0 i1))
theorem rsendP_no {cs l h : Int} {xs : List (Int × Int)} {tag i0 i1 : Int} (hb : i1 < i0 ∨ tag < 0 ∨ (xs.length : Int) ≤ tag) : rsendP cs l h xs tag i0 i1 = ((l, h), xs) := if_pos hb
theorem rsendP_yes {cs l h : Int} {xs : List (Int × Int)} {k : Nat} {i0 i1 p0 p1 : Int} (hi : i0 ≤ i1) (hk : k < xs.length) (hp : xs[k]? = some (p0, p1)) : rsendP cs l h xs (k : Int) i0 i1 = ((0, if cs < h + 1 then cs else h + 1), xs.set k (rjoinP p0 p1 i0 i1)) := by
  unfold rsendP
  rw [if_neg (by omega), Int.toNat_natCast, getD_of hp]
theorem rsendP_len (cs l h : Int) (xs : List (Int × Int)) (tag i0 i1 : Int) : (rsendP cs l h xs tag i0 i1).2.length = xs.length := by
  unfold rsendP
  split
  · rfl
  · simp
theorem rsend_any (cs l h tag i0 i1 o0 o1 : Int) (b c base n : Nat) (xs ys : List (Int × Int)) (w : World) (hm : xs.length = n) (hn : 0 < n) (hs : n ≤ 1000) (hx : ElemAt w base 29 b c xs) (hh : -9223372036854775808 ≤ h) (hh2 : h ≤ 9223372036854775806) (hr : rsendP cs l h xs tag i0 i1 = ((o0, o1), ys)) :
    Calls Try.prog 32 #[.int .i64 cs, .agg #[.int .i64 l, .int .i64 h, .slice (some ⟨b, 0, none⟩) n c], .int .i64 tag, .agg #[.int .i64 i0, .int .i64 i1]] w (ElemOutN 29 w o0 o1 n ys) := by
  by_cases hi : i1 < i0
  · rw [rsendP_no (.inl hi)] at hr
    cases hr
    exact (rsend_no1 cs l h i0 i1 tag b c base n xs w hm hn hs hx hi).mono fun _ _ h => relem_outN hm h
  · by_cases ht : tag < 0
    · rw [rsendP_no (.inr (.inl ht))] at hr
      cases hr
      exact (rsend_no2 cs l h i0 i1 tag b c base n xs w hm hn hs hx (by omega) ht).mono fun _ _ h => relem_outN hm h
    · by_cases ht2 : (n : Int) ≤ tag
      · rw [rsendP_no (.inr (.inr (by rw [hm]; exact ht2)))] at hr
        cases hr
        exact (rsend_no3 cs l h i0 i1 tag b c base n xs w hm hn hs hx (by omega) ht2).mono fun _ _ h => relem_outN hm h
      · obtain ⟨k, rfl⟩ : ∃ k : Nat, tag = (k : Int) := ⟨tag.toNat, by omega⟩
        have hk : k < n := by omega
        obtain ⟨p0, p1, hp⟩ := pair_at hm hk
        rw [rsendP_yes (by omega) (by omega) hp] at hr
        injection hr with h1 h2
        injection h1 with h3 h4
        subst h2
        subst h3
        exact (rsend_yes cs l h i0 i1 p0 p1 (rjoinP p0 p1 i0 i1).1 (rjoinP p0 p1 i0 i1).2 o1 b c base n xs w hm hn hs hx k (by omega) hk hp hh hh2 rfl h4).mono fun _ _ h => relem_outN (by simp [hm]) h
end Go.Proofs.Ytgepaajhccadhaa
