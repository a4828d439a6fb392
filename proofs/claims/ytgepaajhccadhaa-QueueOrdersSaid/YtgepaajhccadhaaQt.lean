/-
  build: an Elem of sends, and the reference's beside it.
-/
import Derived.Test.YtgepaajhccadhaaQs
import Derived.Test.YtgepaajhccadhaaQp
import Derived.Test.YtgepaajhccadhaaQo
namespace Go.Proofs.Ytgepaajhccadhaa
open Go.RowKit
/-- A row of triples in memory: nothing, or its cells. -/
def TRow (w : World) (A : Option Addr) (ps : List (Int × Int × Int)) : Prop := ps = [] ∨ ∃ a : Addr, A = some a ∧ a.block < w.heap.size ∧ ∀ k t l h, ps[k]? = some (t, l, h) → w.cell? (a.add (k * 3)) = some (.int .i64 t) ∧ w.cell? ⟨(a.add (k * 3)).block, (a.add (k * 3)).off + 1, none⟩ = some (.int .i64 l) ∧ w.cell? ⟨(a.add (k * 3)).block, (a.add (k * 3)).off + 2, none⟩ = some (.int .i64 h)
theorem trow_keep {w w' : World} {A : Option Addr} {ps : List (Int × Int × Int)} (h : TRow w A ps) (hb : Below w.heap.size w w') : TRow w' A ps := by
  rcases h with h | ⟨a, rfl, hab, hc⟩
  · exact .inl h
  · refine .inr ⟨a, rfl, Nat.lt_of_lt_of_le hab hb.size, fun k t l h hp => ?_⟩
    have hk : (a.add (k * 3)).block < w.heap.size := by rw [add_block]; exact hab
    obtain ⟨c0, c1, c2⟩ := hc k t l h hp
    exact ⟨(hb.cell (p := a.add (k * 3)) hk).trans c0, (hb.cell (p := ⟨(a.add (k * 3)).block, (a.add (k * 3)).off + 1, none⟩) hk).trans c1, (hb.cell (p := ⟨(a.add (k * 3)).block, (a.add (k * 3)).off + 2, none⟩) hk).trans c2⟩
theorem trow_at {w : World} {A : Option Addr} {ps : List (Int × Int × Int)} {k : Nat} {t l h : Int} (hr : TRow w A ps) (hp : ps[k]? = some (t, l, h)) : ∃ a : Addr, A = some a ∧ (a.add (k * 3)).block < w.heap.size ∧ w.cell? (a.add (k * 3)) = some (.int .i64 t) ∧ w.cell? ⟨(a.add (k * 3)).block, (a.add (k * 3)).off + 1, none⟩ = some (.int .i64 l) ∧ w.cell? ⟨(a.add (k * 3)).block, (a.add (k * 3)).off + 2, none⟩ = some (.int .i64 h) := by
  rcases hr with rfl | ⟨a, rfl, hab, hc⟩
  · simp at hp
  · exact ⟨a, rfl, by rw [add_block]; exact hab, hc k t l h hp⟩
theorem triple_at {ps : List (Int × Int × Int)} {n k : Nat} (hn : ps.length = n) (hk : k < n) : ∃ t l h, ps[k]? = some (t, l, h) := ⟨_, _, _, List.getElem?_eq_getElem (by rw [hn]; exact hk)⟩
/-- One send: what is told behind it. -/
def stepP (cs : Int) (s : Int × List (Int × Int)) (p : Int × Int × Int) : Int × List (Int × Int) :=
  ((rsendP cs 0 s.1 s.2 p.1 (nrm (wrap32 p.2.1) (wrap32 p.2.2)).1 (nrm (wrap32 p.2.1) (wrap32 p.2.2)).2).1.2, (rsendP cs 0 s.1 s.2 p.1 (nrm (wrap32 p.2.1) (wrap32 p.2.2)).1 (nrm (wrap32 p.2.1) (wrap32 p.2.2)).2).2)
/-- What is told behind a row of sends, up to twenty. -/
def buildP (cs : Int) (n : Nat) (ps : List (Int × Int × Int)) : Int × List (Int × Int) := (ps.take 20).foldl (stepP cs) (0, List.replicate n (1, 0))
def BInv (cs h : Int) (n : Nat) (xs : List (Int × Int)) : Prop := xs.length = n ∧ 0 ≤ h ∧ h ≤ cs ∧ ∀ p ∈ xs, ItvIn p
theorem nrm_itv (a b : Int) : ItvIn (nrm (wrap32 a) (wrap32 b)) := by
  obtain ⟨a1, a2⟩ := wrap_in a
  obtain ⟨b1, b2⟩ := wrap_in b
  have h := nrms (wrap32 a) (wrap32 b)
  unfold ItvIn
  rcases h with ⟨_, h1, h2⟩ | ⟨_, h1, h2⟩
  · exact .inl (Prod.ext h1 h2)
  · exact .inr (by omega)
theorem join_in {x0 x1 i0 i1 : Int} (hx : ItvIn (x0, x1)) (hi : ItvIn (i0, i1)) : joinP x0 x1 i0 i1 = rjoinP x0 x1 i0 i1 ∧ ItvIn (rjoinP x0 x1 i0 i1) := by
  have r : ∀ {a b : Int}, ItvIn (a, b) → -2147483648 ≤ a ∧ b ≤ 2147483647 := by
    intro a b h
    rcases h with h | h
    · cases h; omega
    · simp only at h; omega
  have rx := r hx
  have ri := r hi
  refine ⟨join_eq rx.1 rx.2 ri.1 ri.2, ?_⟩
  have sj := join_specs x0 x1 i0 i1
  have s4 := mns x0 i0
  have s5 := mxs x1 i1
  have e : ∀ {a b : Int}, ItvIn (a, b) → (a = 1 ∧ b = 0) ∨ (-2147483648 ≤ a ∧ a ≤ b ∧ b ≤ 2147483647) := by
    intro a b h
    rcases h with h | h
    · cases h; exact .inl ⟨rfl, rfl⟩
    · exact .inr h
  have ex := e hx
  have ei := e hi
  unfold ItvIn
  by_cases h0 : (rjoinP x0 x1 i0 i1).1 = 1 ∧ (rjoinP x0 x1 i0 i1).2 = 0
  · exact .inl (Prod.ext h0.1 h0.2)
  · refine .inr ?_
    omega
theorem send_same {cs h : Int} {n : Nat} {xs : List (Int × Int)} {tag i0 i1 : Int} (hI : BInv cs h n xs) (hc1 : 1 ≤ cs) (hc2 : cs ≤ 2147483647) (hi : ItvIn (i0, i1)) :
    ∃ h' ys, sendP cs 0 h xs tag i0 i1 = ((0, h'), ys) ∧ rsendP cs 0 h xs tag i0 i1 = ((0, h'), ys) ∧ BInv cs h' n ys := by
  obtain ⟨hl, h0, hh, hin⟩ := hI
  by_cases hb : i1 < i0 ∨ tag < 0 ∨ (xs.length : Int) ≤ tag
  · exact ⟨h, xs, sendP_no hb, rsendP_no hb, hl, h0, hh, hin⟩
  · obtain ⟨k, rfl⟩ : ∃ k : Nat, tag = (k : Int) := ⟨tag.toNat, by omega⟩
    obtain ⟨x0, x1, hx⟩ := pair_at rfl (show k < xs.length by omega)
    obtain ⟨hj, hjin⟩ := join_in (hin _ (List.mem_of_getElem? hx)) hi
    have hm : moreP h cs = if cs < h + 1 then cs else h + 1 := by
      unfold moreP
      split <;> split <;> omega
    have hr : 0 ≤ (if cs < h + 1 then cs else h + 1) ∧ (if cs < h + 1 then cs else h + 1) ≤ cs := by split <;> omega
    refine ⟨if cs < h + 1 then cs else h + 1, xs.set k (rjoinP x0 x1 i0 i1), ?_, rsendP_yes (by omega) (by omega) hx, by simp [hl], hr.1, hr.2, fun p hp => ?_⟩
    · rw [sendP_yes (by omega) (by omega) hx, hj, hm, ofP_in _ _ (by omega) (by omega) hr.1]
    · rcases List.mem_or_eq_of_mem_set hp with h | rfl
      · exact hin p h
      · exact hjin
theorem starts_b (cs : Int) (n : Nat) (hc1 : 1 ≤ cs) : BInv cs 0 n (List.replicate n (1, 0)) := ⟨by simp, by omega, by omega, fun p hp => .inl (List.eq_of_mem_replicate hp)⟩
theorem step_inv {cs : Int} {n : Nat} {s : Int × List (Int × Int)} {p : Int × Int × Int} (hI : BInv cs s.1 n s.2) (hc1 : 1 ≤ cs) (hc2 : cs ≤ 2147483647) : BInv cs (stepP cs s p).1 n (stepP cs s p).2 := by
  obtain ⟨h', ys, _, hr, hB⟩ := send_same (tag := p.1) (i0 := (nrm (wrap32 p.2.1) (wrap32 p.2.2)).1) (i1 := (nrm (wrap32 p.2.1) (wrap32 p.2.2)).2) hI hc1 hc2 (nrm_itv p.2.1 p.2.2)
  unfold stepP
  rw [hr]
  exact hB
theorem fold_inv {cs : Int} {n : Nat} (hc1 : 1 ≤ cs) (hc2 : cs ≤ 2147483647) : ∀ (ps : List (Int × Int × Int)) (s : Int × List (Int × Int)), BInv cs s.1 n s.2 → BInv cs (ps.foldl (stepP cs) s).1 n (ps.foldl (stepP cs) s).2
  | [], _, h => h
  | p :: ps, s, h => fold_inv hc1 hc2 ps (stepP cs s p) (step_inv h hc1 hc2)
theorem build_inv (cs : Int) (n : Nat) (ps : List (Int × Int × Int)) (hc1 : 1 ≤ cs) (hc2 : cs ≤ 2147483647) : BInv cs (buildP cs n ps).1 n (buildP cs n ps).2 := fold_inv hc1 hc2 _ _ (starts_b cs n hc1)
theorem fold_more {cs : Int} {ps : List (Int × Int × Int)} {s s' : Int × List (Int × Int)} {k : Nat} {p : Int × Int × Int} (h : (ps.take k).foldl (stepP cs) s = s') (hp : ps[k]? = some p) : (ps.take (k + 1)).foldl (stepP cs) s = stepP cs s' p := by
  rw [List.take_add_one, hp, List.foldl_append, h]
  rfl
def BuildOut (w : World) (n : Nat) (s : Int × List (Int × Int)) (e : Ending) (w' : World) : Prop := ∃ g cap g' cap', e = .returned (.tuple #[.agg #[.int .i64 0, .int .i64 s.1, .slice (some ⟨g, 0, none⟩) n cap], .agg #[.int .i64 0, .int .i64 s.1, .slice (some ⟨g', 0, none⟩) n cap'], .bool true]) ∧ ElemAt w' w.heap.size 25 g cap s.2 ∧ ElemAt w' w.heap.size 29 g' cap' s.2 ∧ Below w.heap.size w w'
def BdRel (w : World) (X n : Nat) (cs : Int) (m : Nat) (ps : List (Int × Int × Int)) (vi : Value) (wr : World) : Prop := ∃ (k : Nat) (h : Int) (xs : List (Int × Int)) (ge cape gw capw : Nat), k ≤ m ∧ k ≤ 20 ∧ vi = .int .i64 k ∧ (ps.take k).foldl (stepP cs) (0, List.replicate n (1, 0)) = (h, xs) ∧ BInv cs h n xs ∧ wr.heap[w.heap.size]? = some (.cells #[.int .i64 0, .int .i64 0, .slice none 0 0] 28 (0, 0)) ∧ wr.heap[w.heap.size + 1]? = some (.cells #[.int .i64 0, .int .i64 0, .slice none 0 0] 32 (0, 0)) ∧ wr.heap[w.heap.size + 2]? = some (.cells #[.int .i64 0, .int .i64 cs, .int .i64 0, .int .i64 1, .int .i64 (n : Int), .slice none 0 0] 42 (0, 0)) ∧ wr.heap[X]? = some (.cells #[.int .i64 0, .int .i64 h, .slice (some ⟨ge, 0, none⟩) n cape] 28 (0, 0)) ∧ wr.heap[X + 1]? = some (.cells #[.int .i64 0, .int .i64 h, .slice (some ⟨gw, 0, none⟩) n capw] 32 (0, 0)) ∧ ElemAt wr (w.heap.size + 3) 25 ge cape xs ∧ ElemAt wr (w.heap.size + 3) 29 gw capw xs ∧ (ge ≠ X ∧ ge ≠ X + 1 ∧ gw ≠ X ∧ gw ≠ X + 1) ∧ Below w.heap.size w wr
def ElemCutT (t u : TypeId) (W0 : World) (l h : Int) (n : Nat) (xs : List (Int × Int)) (e : Value) (wx : World) : Prop := ∃ x g cap, e = .pointer (some ⟨x, 0, none⟩) ∧ W0.heap.size ≤ x ∧ wx.heap[x]? = some (.cells #[.int .i64 l, .int .i64 h, .slice (some ⟨g, 0, none⟩) n cap] t (0, 0)) ∧ ElemAt wx W0.heap.size u g cap xs ∧ Below W0.heap.size W0 wx
/-- One block is told anew; all others are as they were. -/
def PutCut (t u : TypeId) (W0 : World) (x : Nat) (l h : Int) (n : Nat) (xs : List (Int × Int)) (wx : World) : Prop := ∃ g cap, wx.heap[x]? = some (.cells #[.int .i64 l, .int .i64 h, .slice (some ⟨g, 0, none⟩) n cap] t (0, 0)) ∧ W0.heap.size ≤ g ∧ ElemAt wx W0.heap.size u g cap xs ∧ (∀ b y, b ≠ x → W0.heap[b]? = some y → wx.heap[b]? = some y) ∧ ∀ B, B ≤ x → B ≤ W0.heap.size → Below B W0 wx
theorem below_put3w {B : Nat} {W0 W : World} {g : Nat} {u v x : Value} (h : Below B W0 W) (hg : B ≤ g) : Below B W0 (((W.setCell ⟨g, 0, none⟩ u).setCell ⟨g, 1, none⟩ v).setCell ⟨g, 2, none⟩ x) := ((h.setCell (p := ⟨g, 0, none⟩) hg u).setCell (p := ⟨g, 1, none⟩) hg v).setCell (p := ⟨g, 2, none⟩) hg x
theorem al_lt (W : World) (x : Obj) : W.heap.size < (W.alloc x).heap.size := by simp only [World.size_alloc]; omega
theorem trow_oth {w w' : World} {A : Option Addr} {ps : List (Int × Int × Int)} {x : Nat} (h : TRow w A ps) (ho : ∀ b y, b ≠ x → w.heap[b]? = some y → w'.heap[b]? = some y) (hne : ∀ a, A = some a → a.block ≠ x) : TRow w' A ps := by
  rcases h with h | ⟨a, rfl, hab, hc⟩
  · exact .inl h
  · obtain ⟨o, hob⟩ : ∃ o, w.heap[a.block]? = some o := ⟨_, Array.getElem?_eq_getElem hab⟩
    have hb := ho _ _ (hne a rfl) hob
    have hce : ∀ p : Addr, p.block = a.block → w'.cell? p = w.cell? p := by
      intro p hp
      unfold World.cell?
      rw [hp, hb, hob]
    refine .inr ⟨a, rfl, blk_lt hb, fun k t l h hp => ?_⟩
    rw [hce _ (add_block _ _), hce _ (by simp [add_block]), hce _ (by simp [add_block])]
    exact hc k t l h hp
theorem put33 {W WF : World} {n m : Nat} {t u : TypeId} {a b c d e f : Value} (hne : n ≠ m) (h : W.heap[n]? = some (.cells #[a, b, c] t (0, 0))) (k : W.heap[m]? = some (.cells #[d, e, f] u (0, 0))) (v0 v1 v2 u0 u1 u2 : Value)
    (hW : WF = (((((W.setCell ⟨n, 0, none⟩ v0).setCell ⟨n, 1, none⟩ v1).setCell ⟨n, 2, none⟩ v2).setCell ⟨m, 0, none⟩ u0).setCell ⟨m, 1, none⟩ u1).setCell ⟨m, 2, none⟩ u2) :
    WF.heap[n]? = some (.cells #[v0, v1, v2] t (0, 0)) ∧ WF.heap[m]? = some (.cells #[u0, u1, u2] u (0, 0)) ∧ (∀ (b : Nat) (x : Obj), b ≠ n → b ≠ m → W.heap[b]? = some x → WF.heap[b]? = some x) ∧ ∀ B, B ≤ n → B ≤ m → Below B W WF := by
  subst hW
  refine ⟨blk_set (blk_set (blk_set (set3 h) hne) hne) hne, set3 (blk_set (blk_set (blk_set k (Ne.symm hne)) (Ne.symm hne)) (Ne.symm hne)), fun b x h1 h2 hx => blk_set (blk_set (blk_set (blk_set (blk_set (blk_set hx h1) h1) h1) h2) h2) h2, fun B h1 h2 => below_put3w (below_put3w (Below.refl _ _) h1) h2⟩
theorem le_al (W : World) (x : Obj) : W.heap.size ≤ (W.alloc x).heap.size := by simp only [World.size_alloc]; omega
set_option maxRecDepth 100000 in
set_option maxHeartbeats 8000000 in
theorem build_row (n : Nat) (cs : Int) (A : Option Addr) (m ca : Nat) (ps : List (Int × Int × Int)) (w : World) (hn : n = 1 ∨ n = 2 ∨ n = 3 ∨ n = 4) (hc1 : 1 ≤ cs) (hc2 : cs ≤ 2147483647) (hm : ps.length = m) (hmb : m ≤ 9223372036854775807) (hp : TRow w A ps) :
    Calls Try.prog 9 #[.int .i64 (n : Int), .int .i64 cs, .slice A m ca] w (BuildOut w n (buildP cs n ps)) := by
  have hn0 : 0 < n := by omega
  have hn4 : n ≤ 4 := by omega
  replace hp := Lib.hid hp
  replace hm := Lib.hid hm
  replace hn := Lib.hid hn
  go_enter Try.func9, Try.ntmps9
  go_upto_region 2 with fail
  refine wp_world (fun W => W.heap[w.heap.size]? = some (.cells #[.int .i64 0, .int .i64 0, .slice none 0 0] 28 (0, 0)) ∧ W.heap[w.heap.size + 1]? = some (.cells #[.int .i64 0, .int .i64 0, .slice none 0 0] 32 (0, 0)) ∧ W.heap[w.heap.size + 2]? = some (.cells #[.int .i64 0, .int .i64 cs, .int .i64 0, .int .i64 1, .int .i64 (n : Int), .slice none 0 0] 42 (0, 0)) ∧ Below w.heap.size w W) ⟨blkUp (blkUp (blkA _ _ (by first | rfl | simp only [World.size_alloc])) _) _, blkUp (blkA _ _ (by first | rfl | simp only [World.size_alloc])) _, blkA _ _ (by first | rfl | simp only [World.size_alloc]), (((Below.refl _ _).alloc (by first | exact Nat.le_refl _ | (simp only [World.size_alloc]; omega)) _).alloc (by first | exact Nat.le_refl _ | (simp only [World.size_alloc]; omega)) _).alloc (by first | exact Nat.le_refl _ | (simp only [World.size_alloc]; omega)) _⟩ ?_
  rintro w1 ⟨k0, k1, k2, hB⟩
  have r0 := row_of k0
  have f0 := frozen_of k0
  have z0 := blk_lt k0
  have r1 := row_of k1
  have f1 := frozen_of k1
  have z1 := blk_lt k1
  have r2 := row_of k2
  have f2 := frozen_of k2
  have z2 := blk_lt k2
  have cn := none_n 0 cs 0 1 none 0 0 n hn.out w1
  have hz0 := blk_lt k2
  go_wp2_with fail
  refine cn.mono ?_
  rintro e w2 ⟨g0, cap0, rfl, hE, hb⟩
  clear cn
  replace k0 := blk_keep hb k0
  replace k1 := blk_keep hb k1
  replace k2 := blk_keep hb k2
  replace hB := hB.trans (hb.mono hB.size)
  clear r0 f0 z0 r1 f1 z1 r2 f2 z2
  clear hb
  replace hE := Lib.hid (elem_base (b := w.heap.size + 3) hE (by omega))
  have cn := rnone_n n w2 hn0 (by omega)
  go_wp2_with fail
  refine cn.mono ?_
  rintro e w3 ⟨g1, cap1, rfl, hR, hb⟩
  clear cn
  have hg0 := elem_ge hE.out
  have hg1 := elem_ge hR
  have hz2 := hb.size
  have hz1 := blk_lt k2
  replace k0 := blk_keep hb k0
  replace k1 := blk_keep hb k1
  replace k2 := blk_keep hb k2
  replace hE := Lib.hid (elem_keep hE.out hb)
  replace hB := hB.trans (hb.mono hB.size)
  clear hb
  replace hR := Lib.hid (elem_base (b := w.heap.size + 3) hR (by omega))
  go_wp2_with fail
  have hx3 := hB.size
  go_loopw [12] (fun vi wr => BdRel w w3.heap.size n cs m ps vi wr) (fun i _ => m - (intOf i).toNat)
  case atStart => exact ⟨0, 0, _, g0, cap0, g1, cap1, Nat.zero_le _, Nat.zero_le _, rfl, rfl, starts_b cs n hc1, blkUp (blkUp k0 _) _, blkUp (blkUp k1 _) _, blkUp (blkUp k2 _) _, blkUp (blkA _ _ rfl) _, blkA _ _ (by simp only [World.size_alloc]), elem_up (elem_up hE.out _) _, elem_up (elem_up hR.out _) _, by omega, (hB.alloc hB.size _).alloc (by simp only [World.size_alloc]; omega) _⟩
  case round =>
    have hX0 : w.heap.size + 3 ≤ w3.heap.size := by have := blk_lt k2; omega
    clear hB hE hR k0 k1 k2 hg0 hg1
    obtain ⟨k, h, xs, ge, cape, gw, capw, hk, hk20, rfl, hfold, hI, k0, k1, k2, k3, k4, hE, hR, hne, hB⟩ := hrel
    replace hfold := Lib.hid hfold
    replace hI := Lib.hid hI
    by_cases hlt : k < m ∧ k < 20
    · replace hE := Lib.hid hE
      replace hR := Lib.hid hR
      have hlt2 : (k : Int) < (m : Int) := by omega
      have hk02 : (k : Int) < 20 := by omega
      have hk0 : (0 : Int) ≤ (k : Int) := by omega
      obtain ⟨t, lo, hi, hpk⟩ := triple_at hm.out hlt.1
      obtain ⟨a, rfl, hab, a0, a1, a2⟩ := trow_at (trow_keep hp.out hB) hpk
      have hab0 : a.block < w.heap.size := by
        obtain ⟨a', ha', hb', _⟩ := trow_at hp.out hpk
        cases ha'
        rwa [add_block] at hb'
      replace hpk := Lib.hid hpk
      obtain ⟨i0, i1, hi01⟩ : ∃ i0 i1, nrm (wrap32 lo) (wrap32 hi) = (i0, i1) := ⟨_, _, rfl⟩
      obtain ⟨h', ys, hs1, hs2, hJ⟩ := send_same (tag := t) hI.out hc1 hc2 (hi01 ▸ nrm_itv lo hi)
      have hfold' : (ps.take (k + 1)).foldl (stepP cs) (0, List.replicate n (1, 0)) = (h', ys) := by
        rw [fold_more hfold.out hpk.out]
        unfold stepP
        simp only [hi01, hs2]
      have hxl := hI.out.1
      have hyl := hJ.1
      have hhb : -9223372036854775808 ≤ h ∧ h ≤ 9223372036854775806 := by have := hI.out.2.1; have := hI.out.2.2.1; omega
      have hhb2 : -9223372036854775808 ≤ h' ∧ h' ≤ 9223372036854775806 := by have := hJ.2.1; have := hJ.2.2.1; omega
      have cnorm := Lib.hid (fun W => by have u := norm_any (wrap32 lo) (wrap32 hi) W; rw [hi01] at u; exact u)
      have cfrom := Lib.hid (fun W (hx : ElemAt W (w.heap.size + 3) 25 ge cape xs) => from_out 0 h ge cape _ n xs W hxl hn0 (by omega) hx)
      have csend := Lib.hid (fun W (hx : ElemAt W (w.heap.size + 3) 25 ge cape xs) => send_any 0 cs 0 1 0 h t i0 i1 0 h' none 0 0 ge cape _ n xs ys W hxl hn0 (by omega) hx hhb.1 (by omega) hs1)
      have crsend := Lib.hid (fun W (hx : ElemAt W (w.heap.size + 3) 29 gw capw xs) => rsend_any cs 0 h t i0 i1 0 h' gw capw _ n xs ys W hxl hn0 (by omega) hx hhb.1 hhb.2 hs2)
      replace hfold' := Lib.hid hfold'
      replace hJ := Lib.hid hJ
      replace hxl := Lib.hid hxl
      replace hyl := Lib.hid hyl
      replace hi01 := Lib.hid hi01
      have hm' := hm.out
      have hmS : (a.add (k * 3)).block < wr.heap.size := hab
      clear hs1 hs2 hlt hm'
      have hA : TRow wr (some a) ps := trow_keep hp.out hB
      replace hA := Lib.hid hA
      go_wp2_with fail
      refine (bend_any _ _ _).mono ?_
      rintro e w5 ⟨rfl, hb⟩
      clear a0 a1 a2
      replace k0 := blk_keep hb k0
      replace k1 := blk_keep hb k1
      replace k2 := blk_keep hb k2
      replace k3 := blk_keep hb k3
      replace k4 := blk_keep hb k4
      replace hE := Lib.hid (elem_keep hE.out hb)
      replace hR := Lib.hid (elem_keep hR.out hb)
      replace hA := Lib.hid (trow_keep hA.out hb)
      replace hB := hB.trans (hb.mono hB.size)
      clear hb
      go_wp2_with fail
      refine (cnorm.out _).mono ?_
      rintro e w6 ⟨rfl, hb⟩
      replace k0 := blk_keep hb k0
      replace k1 := blk_keep hb k1
      replace k2 := blk_keep hb k2
      replace k3 := blk_keep hb k3
      replace k4 := blk_keep hb k4
      replace hE := Lib.hid (elem_keep hE.out hb)
      replace hR := Lib.hid (elem_keep hR.out hb)
      replace hA := Lib.hid (trow_keep hA.out hb)
      replace hB := hB.trans (hb.mono hB.size)
      clear hb
      go_upto_region 7 with fail
      have hv_w7_0 : w.heap.size < w6.heap.size := blk_lt k0
      have hv_w7_1 : w.heap.size + 1 < w6.heap.size := blk_lt k1
      have hv_w7_2 : w.heap.size + 2 < w6.heap.size := blk_lt k2
      have hv_w7_3 : w3.heap.size < w6.heap.size := blk_lt k3
      have hv_w7_4 : w3.heap.size + 1 < w6.heap.size := blk_lt k4
      refine wp_world (fun W => W.heap[w.heap.size]? = some (.cells #[.int .i64 0, .int .i64 0, .slice none 0 0] 28 (0, 0)) ∧ W.heap[w.heap.size + 1]? = some (.cells #[.int .i64 0, .int .i64 0, .slice none 0 0] 32 (0, 0)) ∧ W.heap[w.heap.size + 2]? = some (.cells #[.int .i64 0, .int .i64 cs, .int .i64 0, .int .i64 1, .int .i64 (n : Int), .slice none 0 0] 42 (0, 0)) ∧ W.heap[w3.heap.size]? = some (.cells #[.int .i64 0, .int .i64 h, .slice (some ⟨ge, 0, none⟩) n cape] 28 (0, 0)) ∧ W.heap[w3.heap.size + 1]? = some (.cells #[.int .i64 0, .int .i64 h, .slice (some ⟨gw, 0, none⟩) n capw] 32 (0, 0)) ∧ W.heap[w6.heap.size]? = some (.cells #[.int .i64 i0, .int .i64 i1] 29 (0, 0)) ∧ ElemAt W (w.heap.size + 3) 25 ge cape xs ∧ ElemAt W (w.heap.size + 3) 29 gw capw xs ∧ TRow W (some a) ps ∧ Below w.heap.size w W) ⟨blkUp (k0) _, blkUp (k1) _, blkUp (k2) _, blkUp (k3) _, blkUp (k4) _, blkA _ _ (by first | rfl | simp only [World.size_alloc]), elem_keep hE.out ((Below.refl _ _).alloc (by first | exact Nat.le_refl _ | (simp only [World.size_alloc]; omega)) _), elem_keep hR.out ((Below.refl _ _).alloc (by first | exact Nat.le_refl _ | (simp only [World.size_alloc]; omega)) _), trow_keep hA.out ((Below.refl _ _).alloc (by first | exact Nat.le_refl _ | (simp only [World.size_alloc]; omega)) _), (hB).alloc (by first | exact hB.size | (have := hB.size; simp only [World.size_alloc]; omega)) _⟩ ?_
      clear hB k0 k1 k2 k3 k4 hE hR hA
      rintro w7 ⟨k0, k1, k2, k3, k4, k5, hE, hR, hA, hB⟩
      replace hE := Lib.hid hE
      replace hR := Lib.hid hR
      replace hA := Lib.hid hA
      have r0 := row_of k0
      have f0 := frozen_of k0
      have z0 := blk_lt k0
      have r1 := row_of k1
      have f1 := frozen_of k1
      have z1 := blk_lt k1
      have r2 := row_of k2
      have f2 := frozen_of k2
      have z2 := blk_lt k2
      have r3 := row_of k3
      have f3 := frozen_of k3
      have z3 := blk_lt k3
      have r4 := row_of k4
      have f4 := frozen_of k4
      have z4 := blk_lt k4
      have r5 := row_of k5
      have f5 := frozen_of k5
      have z5 := blk_lt k5
      have hv7 := blk_lt k4
      go_wp2_with fail
      refine (cfrom.out _ hE.out).mono ?_
      rintro e w8 ⟨gs, caps, rfl, hS, hb⟩
      replace k0 := blk_keep hb k0
      replace k1 := blk_keep hb k1
      replace k2 := blk_keep hb k2
      replace k3 := blk_keep hb k3
      replace k4 := blk_keep hb k4
      replace k5 := blk_keep hb k5
      replace hE := Lib.hid (elem_keep hE.out hb)
      replace hR := Lib.hid (elem_keep hR.out hb)
      replace hA := Lib.hid (trow_keep hA.out hb)
      replace hB := hB.trans (hb.mono hB.size)
      clear r0 f0 z0 r1 f1 z1 r2 f2 z2 r3 f3 z3 r4 f4 z4 r5 f5 z5
      clear hb
      have hgs := (elem_ge hS).1
      replace hS := Lib.hid (elem_base (b := w.heap.size + 3) hS (by omega))
      go_upto_region 8 with fail
      have hv_w9_0 : w.heap.size < w8.heap.size := blk_lt k0
      have hv_w9_1 : w.heap.size + 1 < w8.heap.size := blk_lt k1
      have hv_w9_2 : w.heap.size + 2 < w8.heap.size := blk_lt k2
      have hv_w9_3 : w3.heap.size < w8.heap.size := blk_lt k3
      have hv_w9_4 : w3.heap.size + 1 < w8.heap.size := blk_lt k4
      have hv_w9_5 : w6.heap.size < w8.heap.size := blk_lt k5
      refine wp_world (fun W => W.heap[w.heap.size]? = some (.cells #[.int .i64 0, .int .i64 0, .slice none 0 0] 28 (0, 0)) ∧ W.heap[w.heap.size + 1]? = some (.cells #[.int .i64 0, .int .i64 0, .slice none 0 0] 32 (0, 0)) ∧ W.heap[w.heap.size + 2]? = some (.cells #[.int .i64 0, .int .i64 cs, .int .i64 0, .int .i64 1, .int .i64 (n : Int), .slice none 0 0] 42 (0, 0)) ∧ W.heap[w3.heap.size]? = some (.cells #[.int .i64 0, .int .i64 h, .slice (some ⟨ge, 0, none⟩) n cape] 28 (0, 0)) ∧ W.heap[w3.heap.size + 1]? = some (.cells #[.int .i64 0, .int .i64 h, .slice (some ⟨gw, 0, none⟩) n capw] 32 (0, 0)) ∧ W.heap[w6.heap.size]? = some (.cells #[.int .i64 i0, .int .i64 i1] 29 (0, 0)) ∧ W.heap[w8.heap.size]? = some (.cells #[.int .i64 0, .int .i64 h, .slice (some ⟨gs, 0, none⟩) n caps] 32 (0, 0)) ∧ ElemAt W (w.heap.size + 3) 25 ge cape xs ∧ ElemAt W (w.heap.size + 3) 29 gw capw xs ∧ TRow W (some a) ps ∧ ElemAt W (w.heap.size + 3) 29 gs caps xs ∧ Below w.heap.size w W) ⟨blkUp (k0) _, blkUp (k1) _, blkUp (k2) _, blkUp (k3) _, blkUp (k4) _, blkUp (k5) _, blkA _ _ (by first | rfl | simp only [World.size_alloc]), elem_keep hE.out ((Below.refl _ _).alloc (by first | exact Nat.le_refl _ | (simp only [World.size_alloc]; omega)) _), elem_keep hR.out ((Below.refl _ _).alloc (by first | exact Nat.le_refl _ | (simp only [World.size_alloc]; omega)) _), trow_keep hA.out ((Below.refl _ _).alloc (by first | exact Nat.le_refl _ | (simp only [World.size_alloc]; omega)) _), elem_keep hS.out ((Below.refl _ _).alloc (by first | exact Nat.le_refl _ | (simp only [World.size_alloc]; omega)) _), (hB).alloc (by first | exact hB.size | (have := hB.size; simp only [World.size_alloc]; omega)) _⟩ ?_
      clear hB k0 k1 k2 k3 k4 k5 hE hR hA hS
      rintro w9 ⟨k0, k1, k2, k3, k4, k5, k6, hE, hR, hA, hS, hB⟩
      replace hE := Lib.hid hE
      replace hR := Lib.hid hR
      replace hA := Lib.hid hA
      replace hS := Lib.hid hS
      obtain ⟨a', ha', hab9, a0, _, _⟩ := trow_at hA.out hpk.out
      cases ha'
      have mkS : ∀ W, Below w9.heap.size w9 W → W.cell? ⟨w.heap.size + 2, 0, none⟩ = some (.int .i64 0) ∧ W.cell? ⟨w.heap.size + 2, 1, none⟩ = some (.int .i64 cs) ∧ W.cell? ⟨w.heap.size + 2, 2, none⟩ = some (.int .i64 0) ∧ W.cell? ⟨w.heap.size + 2, 3, none⟩ = some (.int .i64 1) ∧ W.cell? ⟨w.heap.size + 2, 4, none⟩ = some (.int .i64 (n : Int)) ∧ W.cell? ⟨w.heap.size + 2, 5, none⟩ = some (.slice none 0 0) ∧ W.cell? ⟨w3.heap.size, 0, none⟩ = some (.int .i64 0) ∧ W.cell? ⟨w3.heap.size, 1, none⟩ = some (.int .i64 h) ∧ W.cell? ⟨w3.heap.size, 2, none⟩ = some (.slice (some ⟨ge, 0, none⟩) n cape) ∧ W.cell? ⟨w6.heap.size, 0, none⟩ = some (.int .i64 i0) ∧ W.cell? ⟨w6.heap.size, 1, none⟩ = some (.int .i64 i1) ∧ W.cell? (a.add (k * 3)) = some (.int .i64 t) := fun W h => ⟨row_of (blk_keep h k2) 0, row_of (blk_keep h k2) 1, row_of (blk_keep h k2) 2, row_of (blk_keep h k2) 3, row_of (blk_keep h k2) 4, row_of (blk_keep h k2) 5, row_of (blk_keep h k3) 0, row_of (blk_keep h k3) 1, row_of (blk_keep h k3) 2, row_of (blk_keep h k5) 0, row_of (blk_keep h k5) 1, (h.cell (p := a.add (k * 3)) hab9).trans a0⟩
      go_cut [15] from 42 to 54 (fun e wx => ElemCutT 28 25 w9 0 h' n ys e wx)
      case first =>
        as_aux_lemma =>
          have hBn := Below.refl w9.heap.size w9
          clear hB k0 k1 k2 k3 k4 k5 k6 a0
          go_region_held3 (fun W => W.cell? ⟨w.heap.size + 2, 0, none⟩ = some (.int .i64 0) ∧ W.cell? ⟨w.heap.size + 2, 1, none⟩ = some (.int .i64 cs) ∧ W.cell? ⟨w.heap.size + 2, 2, none⟩ = some (.int .i64 0) ∧ W.cell? ⟨w.heap.size + 2, 3, none⟩ = some (.int .i64 1) ∧ W.cell? ⟨w.heap.size + 2, 4, none⟩ = some (.int .i64 (n : Int)) ∧ W.cell? ⟨w.heap.size + 2, 5, none⟩ = some (.slice none 0 0) ∧ W.cell? ⟨w3.heap.size, 0, none⟩ = some (.int .i64 0) ∧ W.cell? ⟨w3.heap.size, 1, none⟩ = some (.int .i64 h) ∧ W.cell? ⟨w3.heap.size, 2, none⟩ = some (.slice (some ⟨ge, 0, none⟩) n cape) ∧ W.cell? ⟨w6.heap.size, 0, none⟩ = some (.int .i64 i0) ∧ W.cell? ⟨w6.heap.size, 1, none⟩ = some (.int .i64 i1) ∧ W.cell? (a.add (k * 3)) = some (.int .i64 t))
            (first | (with_reducible exact mkS _ hBn) | (with_reducible exact mkS _ (below_al hBn _)) | (with_reducible exact mkS _ (below_put3 hBn zx)) | (with_reducible exact mkS _ (Below.drew hBn)) | (with_reducible exact mkS _ (Below.drew (below_al hBn _))))
            (first
              | (go_at_call 13; (first | refine (csend.out _ (elem_keep hE.out hBn)).mono ?_ | refine (csend.out _ (elem_keep hE.out (below_al hBn _))).mono ?_ | refine (csend.out _ (elem_keep hE.out (Below.drew hBn))).mono ?_ | refine (csend.out _ (elem_keep hE.out (Below.drew (below_al hBn _)))).mono ?_ | refine (csend.out _ (elem_keep hE.out (below_al (Below.drew hBn) _))).mono ?_); rintro e wn ⟨g2, cap2, rfl, hE1, hbS⟩; (try (with_reducible replace hbS := below_undrew hbS)); have qg := (elem_ge hE1).1; have qr := qg; (try simp only [World.size_alloc] at qg); (try have lx0 := blk_lt kx); (first | replace hE1 := elem_base (b := w9.heap.size) hE1 (Nat.le_refl _) | replace hE1 := elem_base (b := w9.heap.size) hE1 (le_al _ _)); (with_reducible first
                  | (have kx := blkT1 hbS; have zx := hBn.size; replace hBn := below_tr (below_al hBn _) hbS)
                  | (replace kx := blk_keep hbS kx; replace hBn := below_tr hBn hbS)
                  | (replace hBn := below_tr hBn hbS)); (try (have rx := row_of kx; have fx := frozen_of kx; have lx := blk_lt kx))))
          all_goals
            go_wp2_with fail
            go_meet
            have q1 := elem_ge hE1
            refine ⟨_, g2, cap2, rfl, ?_, ?_, ?_, ?_⟩
            · first | exact zx | exact hBn.size
            · first | exact blkA _ _ rfl | exact set3 kx
            · first | exact hE1 | exact elem_up hE1 _ | exact elem_put3 hE1 (Nat.ne_of_gt (Nat.lt_of_lt_of_le (al_lt _ _) qr)) | exact elem_put3 hE1 (by omega)
            · first | exact below_al hBn _ | exact below_put3 hBn zx
      case rest =>
        as_aux_lemma =>
          obtain ⟨gf, g2, cap2, rfl, hgf, kf, hF, hb⟩ := hcut
          have hv9 := blk_lt k4
          have hg2 := (elem_ge hF).1
          clear mkS a0
          replace k0 := blk_keep hb k0
          replace k1 := blk_keep hb k1
          replace k2 := blk_keep hb k2
          replace k3 := blk_keep hb k3
          replace k4 := blk_keep hb k4
          replace k5 := blk_keep hb k5
          replace k6 := blk_keep hb k6
          replace hE := Lib.hid (elem_keep hE.out hb)
          replace hR := Lib.hid (elem_keep hR.out hb)
          replace hA := Lib.hid (trow_keep hA.out hb)
          replace hS := Lib.hid (elem_keep hS.out hb)
          replace hB := hB.trans (hb.mono hB.size)
          clear hb
          have k7 := kf
          clear kf
          replace hF := Lib.hid (elem_base (b := w.heap.size + 3) hF (by omega))
          go_upto_region 9 with fail
          refine wp_world (fun W => W.heap[w.heap.size]? = some (.cells #[.int .i64 0, .int .i64 0, .slice none 0 0] 28 (0, 0)) ∧ W.heap[w.heap.size + 1]? = some (.cells #[.int .i64 0, .int .i64 0, .slice none 0 0] 32 (0, 0)) ∧ W.heap[w.heap.size + 2]? = some (.cells #[.int .i64 0, .int .i64 cs, .int .i64 0, .int .i64 1, .int .i64 (n : Int), .slice none 0 0] 42 (0, 0)) ∧ W.heap[w3.heap.size]? = some (.cells #[.int .i64 0, .int .i64 h, .slice (some ⟨ge, 0, none⟩) n cape] 28 (0, 0)) ∧ W.heap[w3.heap.size + 1]? = some (.cells #[.int .i64 0, .int .i64 h, .slice (some ⟨gw, 0, none⟩) n capw] 32 (0, 0)) ∧ W.heap[w6.heap.size]? = some (.cells #[.int .i64 i0, .int .i64 i1] 29 (0, 0)) ∧ W.heap[w8.heap.size]? = some (.cells #[.int .i64 0, .int .i64 h, .slice (some ⟨gs, 0, none⟩) n caps] 32 (0, 0)) ∧ W.heap[gf]? = some (.cells #[.int .i64 0, .int .i64 h', .slice (some ⟨g2, 0, none⟩) n cap2] 28 (0, 0)) ∧ ElemAt W (w.heap.size + 3) 25 ge cape xs ∧ ElemAt W (w.heap.size + 3) 29 gw capw xs ∧ TRow W (some a) ps ∧ ElemAt W (w.heap.size + 3) 29 gs caps xs ∧ ElemAt W (w.heap.size + 3) 25 g2 cap2 ys ∧ Below w.heap.size w W) ⟨k0, k1, k2, k3, k4, k5, k6, k7, hE.out, hR.out, hA.out, hS.out, hF.out, hB⟩ ?_
          clear hB k0 k1 k2 k3 k4 k5 k6 k7 hE hR hA hS hF
          rintro w11 ⟨k0, k1, k2, k3, k4, k5, k6, k7, hE, hR, hA, hS, hF, hB⟩
          replace hE := Lib.hid hE
          replace hR := Lib.hid hR
          replace hA := Lib.hid hA
          replace hS := Lib.hid hS
          replace hF := Lib.hid hF
          have hv11 := blk_lt k4
          have hv11' := blk_lt k7
          obtain ⟨a', ha', hab11, a0, _, _⟩ := trow_at hA.out hpk.out
          cases ha'
          have hzz : w3.heap.size + 1 ≤ w11.heap.size := by omega
          go_cut [] from 55 to 63 (fun wx => PutCut 32 29 w11 (w3.heap.size + 1) 0 h' n ys wx)
          case first =>
            as_aux_lemma =>
              clear hB k0 k1 k2 k3 k6 k7
              have r4 := row_of k4
              have f4 := frozen_of k4
              have z4 := blk_lt k4
              have r5 := row_of k5
              have z5 := blk_lt k5
              go_region_with (go_at_call 32; refine (crsend.out _ (hR.out.drew)).mono ?_; rintro e w12 ⟨g3, cap3, rfl, hQ, hb⟩; have k4' := blk_keep hb k4; have hb3 := Below.trans (Below.drew (Below.refl _ w11)) hb; have hqz := (elem_ge hQ).1; have r4' := row_of k4'; have f4' := frozen_of k4'; have z4' := blk_lt k4'; clear r4 f4 z4)
              all_goals
                go_wp2_with fail
                go_meet
                refine ⟨g3, cap3, set3 k4', ?_, ?_, ?_, ?_⟩
                · exact hqz
                · exact elem_put3 hQ (by have : w11.drew.heap.size = w11.heap.size := rfl; omega)
                · intro b y hne hy
                  exact blk_set (blk_set (blk_set (blk_keep hb3 hy) hne) hne) hne
                · intro B hB1 hB2
                  exact below_put3w (hb3.mono hB2) hB1
          case rest =>
            as_aux_lemma =>
              obtain ⟨g3, cap3, k4', hg3, hQ, hoth, hbel⟩ := hcut
              clear k4 hR a0
              go_upto_region 10 with fail
              refine wp_world (fun W => W.heap[w.heap.size]? = some (.cells #[.int .i64 0, .int .i64 0, .slice none 0 0] 28 (0, 0)) ∧ W.heap[w.heap.size + 1]? = some (.cells #[.int .i64 0, .int .i64 0, .slice none 0 0] 32 (0, 0)) ∧ W.heap[w.heap.size + 2]? = some (.cells #[.int .i64 0, .int .i64 cs, .int .i64 0, .int .i64 1, .int .i64 (n : Int), .slice none 0 0] 42 (0, 0)) ∧ W.heap[w3.heap.size]? = some (.cells #[.int .i64 0, .int .i64 h, .slice (some ⟨ge, 0, none⟩) n cape] 28 (0, 0)) ∧ W.heap[w3.heap.size + 1]? = some (.cells #[.int .i64 0, .int .i64 h', .slice (some ⟨g3, 0, none⟩) n cap3] 32 (0, 0)) ∧ W.heap[w6.heap.size]? = some (.cells #[.int .i64 i0, .int .i64 i1] 29 (0, 0)) ∧ W.heap[w8.heap.size]? = some (.cells #[.int .i64 0, .int .i64 h, .slice (some ⟨gs, 0, none⟩) n caps] 32 (0, 0)) ∧ W.heap[gf]? = some (.cells #[.int .i64 0, .int .i64 h', .slice (some ⟨g2, 0, none⟩) n cap2] 28 (0, 0)) ∧ ElemAt W (w.heap.size + 3) 25 ge cape xs ∧ ElemAt W (w.heap.size + 3) 29 g3 cap3 ys ∧ TRow W (some a) ps ∧ ElemAt W (w.heap.size + 3) 29 gs caps xs ∧ ElemAt W (w.heap.size + 3) 25 g2 cap2 ys ∧ Below w.heap.size w W) ⟨hoth _ _ (by omega) k0, hoth _ _ (by omega) k1, hoth _ _ (by omega) k2, hoth _ _ (by omega) k3, k4', hoth _ _ (by omega) k5, hoth _ _ (by omega) k6, hoth _ _ (by omega) k7, elem_same hE.out (fun x hx => hoth _ _ (by omega) hx), elem_base hQ (by omega), trow_oth hA.out hoth (fun a h => by cases h; omega), elem_same hS.out (fun x hx => hoth _ _ (by omega) hx), elem_same hF.out (fun x hx => hoth _ _ (by omega) hx), hB.trans (hbel _ (by omega) hB.size)⟩ ?_
              clear hB k0 k1 k2 k3 k5 k6 k7 k4' hE hA hS hF hQ hoth hbel
              rintro w12 ⟨k0, k1, k2, k3, k4, k5, k6, k7, hE, hR, hA, hS, hF, hB⟩
              replace hE := Lib.hid hE
              replace hR := Lib.hid hR
              replace hA := Lib.hid hA
              replace hS := Lib.hid hS
              replace hF := Lib.hid hF
              have mkS : ∀ W, Below w12.heap.size w12 W → W.cell? ⟨w3.heap.size, 0, none⟩ = some (.int .i64 0) ∧ W.cell? ⟨w3.heap.size, 1, none⟩ = some (.int .i64 h) ∧ W.cell? ⟨w3.heap.size, 2, none⟩ = some (.slice (some ⟨ge, 0, none⟩) n cape) ∧ W.cell? ⟨w8.heap.size, 0, none⟩ = some (.int .i64 0) ∧ W.cell? ⟨w8.heap.size, 1, none⟩ = some (.int .i64 h) ∧ W.cell? ⟨w8.heap.size, 2, none⟩ = some (.slice (some ⟨gs, 0, none⟩) n caps) := fun W h => ⟨row_of (blk_keep h k3) 0, row_of (blk_keep h k3) 1, row_of (blk_keep h k3) 2, row_of (blk_keep h k6) 0, row_of (blk_keep h k6) 1, row_of (blk_keep h k6) 2⟩
              have hBn := Below.refl w12.heap.size w12
              have s0 := k0
              have s1 := k1
              have s2 := k2
              have s3 := k3
              have s4 := k4
              have s5 := k5
              have s6 := k6
              have s7 := k7
              clear k0 k1 k2 k3 k4 k5 k6 k7
              go_region_held3 (fun W => W.cell? ⟨w3.heap.size, 0, none⟩ = some (.int .i64 0) ∧ W.cell? ⟨w3.heap.size, 1, none⟩ = some (.int .i64 h) ∧ W.cell? ⟨w3.heap.size, 2, none⟩ = some (.slice (some ⟨ge, 0, none⟩) n cape) ∧ W.cell? ⟨w8.heap.size, 0, none⟩ = some (.int .i64 0) ∧ W.cell? ⟨w8.heap.size, 1, none⟩ = some (.int .i64 h) ∧ W.cell? ⟨w8.heap.size, 2, none⟩ = some (.slice (some ⟨gs, 0, none⟩) n caps))
                (first | (with_reducible exact mkS _ hBn) | (with_reducible exact mkS _ (Below.drew hBn)))
                (first
                  | (go_at_call 20; (first | refine (cfrom.out _ (elem_keep hE.out hBn)).mono ?_ | refine (cfrom.out _ (elem_keep hE.out (Below.drew hBn))).mono ?_); rintro e wn ⟨gq, capq, rfl, hQ, hbS⟩; (try (with_reducible replace hbS := below_undrew hbS)); replace hBn := below_tr hBn hbS)
                  | (go_at_call 19; refine (same_row 0 h (some ⟨gq, 0, none⟩) (some ⟨gs, 0, none⟩) n capq caps xs _ hxl.out (by omega) (prow_elem hQ) (prow_keep (prow_elem hS.out) hBn)).mono ?_; rintro e wn ⟨rfl, hbS⟩; replace hBn := below_tr hBn hbS))
              go_upto_region 12 with fail
              have k0 := blk_keep hBn s0
              have k1 := blk_keep hBn s1
              have k2 := blk_keep hBn s2
              have k3 := blk_keep hBn s3
              have k4 := blk_keep hBn s4
              have k5 := blk_keep hBn s5
              have k6 := blk_keep hBn s6
              have k7 := blk_keep hBn s7
              replace hE := Lib.hid (elem_keep hE.out hBn)
              replace hR := Lib.hid (elem_keep hR.out hBn)
              replace hA := Lib.hid (trow_keep hA.out hBn)
              replace hS := Lib.hid (elem_keep hS.out hBn)
              replace hF := Lib.hid (elem_keep hF.out hBn)
              replace hB := below_tr hB hBn
              clear hBn mkS s0 s1 s2 s3 s4 s5 s6 s7
              refine wp_world (fun W => W.heap[w.heap.size]? = some (.cells #[.int .i64 0, .int .i64 0, .slice none 0 0] 28 (0, 0)) ∧ W.heap[w.heap.size + 1]? = some (.cells #[.int .i64 0, .int .i64 0, .slice none 0 0] 32 (0, 0)) ∧ W.heap[w.heap.size + 2]? = some (.cells #[.int .i64 0, .int .i64 cs, .int .i64 0, .int .i64 1, .int .i64 (n : Int), .slice none 0 0] 42 (0, 0)) ∧ W.heap[w3.heap.size]? = some (.cells #[.int .i64 0, .int .i64 h, .slice (some ⟨ge, 0, none⟩) n cape] 28 (0, 0)) ∧ W.heap[w3.heap.size + 1]? = some (.cells #[.int .i64 0, .int .i64 h', .slice (some ⟨g3, 0, none⟩) n cap3] 32 (0, 0)) ∧ W.heap[w6.heap.size]? = some (.cells #[.int .i64 i0, .int .i64 i1] 29 (0, 0)) ∧ W.heap[w8.heap.size]? = some (.cells #[.int .i64 0, .int .i64 h, .slice (some ⟨gs, 0, none⟩) n caps] 32 (0, 0)) ∧ W.heap[gf]? = some (.cells #[.int .i64 0, .int .i64 h', .slice (some ⟨g2, 0, none⟩) n cap2] 28 (0, 0)) ∧ ElemAt W (w.heap.size + 3) 25 ge cape xs ∧ ElemAt W (w.heap.size + 3) 29 g3 cap3 ys ∧ TRow W (some a) ps ∧ ElemAt W (w.heap.size + 3) 29 gs caps xs ∧ ElemAt W (w.heap.size + 3) 25 g2 cap2 ys ∧ Below w.heap.size w W) ⟨k0, k1, k2, k3, k4, k5, k6, k7, hE.out, hR.out, hA.out, hS.out, hF.out, hB⟩ ?_
              clear hB k0 k1 k2 k3 k4 k5 k6 k7 hE hR hA hS hF
              rintro w13 ⟨k0, k1, k2, k3, k4, k5, k6, k7, hE, hR, hA, hS, hF, hB⟩
              replace hE := Lib.hid hE
              replace hR := Lib.hid hR
              replace hA := Lib.hid hA
              replace hS := Lib.hid hS
              replace hF := Lib.hid hF
              clear k5 k6 hE hS cfrom csend crsend cnorm
              have r0 := row_of k0
              have f0 := frozen_of k0
              have z0 := blk_lt k0
              have r1 := row_of k1
              have f1 := frozen_of k1
              have z1 := blk_lt k1
              have r2 := row_of k2
              have f2 := frozen_of k2
              have z2 := blk_lt k2
              have r3 := row_of k3
              have f3 := frozen_of k3
              have z3 := blk_lt k3
              have r4 := row_of k4
              have f4 := frozen_of k4
              have z4 := blk_lt k4
              have r7 := row_of k7
              have f7 := frozen_of k7
              have z7 := blk_lt k7
              go_upto_region 13 with fail
              refine wp_world (fun W => W.heap[w.heap.size]? = some (.cells #[.int .i64 0, .int .i64 0, .slice none 0 0] 28 (0, 0)) ∧ W.heap[w.heap.size + 1]? = some (.cells #[.int .i64 0, .int .i64 0, .slice none 0 0] 32 (0, 0)) ∧ W.heap[w.heap.size + 2]? = some (.cells #[.int .i64 0, .int .i64 cs, .int .i64 0, .int .i64 1, .int .i64 (n : Int), .slice none 0 0] 42 (0, 0)) ∧ W.heap[w3.heap.size]? = some (.cells #[.int .i64 0, .int .i64 h', .slice (some ⟨g2, 0, none⟩) n cap2] 28 (0, 0)) ∧ W.heap[w3.heap.size + 1]? = some (.cells #[.int .i64 0, .int .i64 h', .slice (some ⟨g3, 0, none⟩) n cap3] 32 (0, 0)) ∧ W.heap[gf]? = some (.cells #[.int .i64 0, .int .i64 h', .slice (some ⟨g2, 0, none⟩) n cap2] 28 (0, 0)) ∧ ElemAt W (w.heap.size + 3) 29 g3 cap3 ys ∧ TRow W (some a) ps ∧ ElemAt W (w.heap.size + 3) 25 g2 cap2 ys ∧ Below w.heap.size w W) ⟨blk_set (blk_set (blk_set k0 (by omega)) (by omega)) (by omega), blk_set (blk_set (blk_set k1 (by omega)) (by omega)) (by omega), blk_set (blk_set (blk_set k2 (by omega)) (by omega)) (by omega), set3 k3, blk_set (blk_set (blk_set k4 (by omega)) (by omega)) (by omega), blk_set (blk_set (blk_set k7 (by omega)) (by omega)) (by omega), elem_put3 hR.out (by omega), trow_oth hA.out (fun b y hne hy => blk_set (blk_set (blk_set hy hne) hne) hne) (fun a h => by cases h; omega), elem_put3 hF.out (by omega), below_put3w hB (by omega)⟩ ?_
              clear r0 f0 z0 r1 f1 z1 r2 f2 z2 r3 f3 z3 r4 f4 z4 r7 f7 z7
              clear hB k0 k1 k2 k3 k4 k7 hR hA hF
              rintro w14 ⟨k0, k1, k2, k3, k4, k7, hR, hA, hF, hB⟩
              replace hR := Lib.hid hR
              replace hA := Lib.hid hA
              replace hF := Lib.hid hF
              have cfrom2 := Lib.hid (fun W (hx : ElemAt W (w.heap.size + 3) 25 g2 cap2 ys) => from_out 0 h' g2 cap2 _ n ys W hyl.out hn0 (by omega) hx)
              have mkS : ∀ W, Below w14.heap.size w14 W → W.cell? ⟨w3.heap.size, 0, none⟩ = some (.int .i64 0) ∧ W.cell? ⟨w3.heap.size, 1, none⟩ = some (.int .i64 h') ∧ W.cell? ⟨w3.heap.size, 2, none⟩ = some (.slice (some ⟨g2, 0, none⟩) n cap2) ∧ W.cell? ⟨w3.heap.size + 1, 0, none⟩ = some (.int .i64 0) ∧ W.cell? ⟨w3.heap.size + 1, 1, none⟩ = some (.int .i64 h') ∧ W.cell? ⟨w3.heap.size + 1, 2, none⟩ = some (.slice (some ⟨g3, 0, none⟩) n cap3) := fun W h => ⟨row_of (blk_keep h k3) 0, row_of (blk_keep h k3) 1, row_of (blk_keep h k3) 2, row_of (blk_keep h k4) 0, row_of (blk_keep h k4) 1, row_of (blk_keep h k4) 2⟩
              have hBn := Below.refl w14.heap.size w14
              have s0 := k0
              have s1 := k1
              have s2 := k2
              have s3 := k3
              have s4 := k4
              have s7 := k7
              clear k0 k1 k2 k3 k4 k7
              go_region_held3 (fun W => W.cell? ⟨w3.heap.size, 0, none⟩ = some (.int .i64 0) ∧ W.cell? ⟨w3.heap.size, 1, none⟩ = some (.int .i64 h') ∧ W.cell? ⟨w3.heap.size, 2, none⟩ = some (.slice (some ⟨g2, 0, none⟩) n cap2) ∧ W.cell? ⟨w3.heap.size + 1, 0, none⟩ = some (.int .i64 0) ∧ W.cell? ⟨w3.heap.size + 1, 1, none⟩ = some (.int .i64 h') ∧ W.cell? ⟨w3.heap.size + 1, 2, none⟩ = some (.slice (some ⟨g3, 0, none⟩) n cap3))
                (first | (with_reducible exact mkS _ hBn) | (with_reducible exact mkS _ (Below.drew hBn)))
                (first
                  | (go_at_call 20; (first | refine (cfrom2.out _ (elem_keep hF.out hBn)).mono ?_ | refine (cfrom2.out _ (elem_keep hF.out (Below.drew hBn))).mono ?_); rintro e wn ⟨gq, capq, rfl, hQ, hbS⟩; (try (with_reducible replace hbS := below_undrew hbS)); replace hBn := below_tr hBn hbS)
                  | (go_at_call 19; refine (same_row 0 h' (some ⟨gq, 0, none⟩) (some ⟨g3, 0, none⟩) n capq cap3 ys _ hyl.out (by omega) (prow_elem hQ) (prow_keep (prow_elem hR.out) hBn)).mono ?_; rintro e wn ⟨rfl, hbS⟩; replace hBn := below_tr hBn hbS))
              go_upto_region 5 with fail
              have k0 := blk_keep hBn s0
              have k1 := blk_keep hBn s1
              have k2 := blk_keep hBn s2
              have k3 := blk_keep hBn s3
              have k4 := blk_keep hBn s4
              have k7 := blk_keep hBn s7
              replace hR := Lib.hid (elem_keep hR.out hBn)
              replace hA := Lib.hid (trow_keep hA.out hBn)
              replace hF := Lib.hid (elem_keep hF.out hBn)
              replace hB := below_tr hB hBn
              clear hBn mkS s0 s1 s2 s3 s4 s7
              refine wp_world (fun W => W.heap[w.heap.size]? = some (.cells #[.int .i64 0, .int .i64 0, .slice none 0 0] 28 (0, 0)) ∧ W.heap[w.heap.size + 1]? = some (.cells #[.int .i64 0, .int .i64 0, .slice none 0 0] 32 (0, 0)) ∧ W.heap[w.heap.size + 2]? = some (.cells #[.int .i64 0, .int .i64 cs, .int .i64 0, .int .i64 1, .int .i64 (n : Int), .slice none 0 0] 42 (0, 0)) ∧ W.heap[w3.heap.size]? = some (.cells #[.int .i64 0, .int .i64 h', .slice (some ⟨g2, 0, none⟩) n cap2] 28 (0, 0)) ∧ W.heap[w3.heap.size + 1]? = some (.cells #[.int .i64 0, .int .i64 h', .slice (some ⟨g3, 0, none⟩) n cap3] 32 (0, 0)) ∧ W.heap[gf]? = some (.cells #[.int .i64 0, .int .i64 h', .slice (some ⟨g2, 0, none⟩) n cap2] 28 (0, 0)) ∧ ElemAt W (w.heap.size + 3) 29 g3 cap3 ys ∧ TRow W (some a) ps ∧ ElemAt W (w.heap.size + 3) 25 g2 cap2 ys ∧ Below w.heap.size w W) ⟨k0, k1, k2, k3, k4, k7, hR.out, hA.out, hF.out, hB⟩ ?_
              clear hB k0 k1 k2 k3 k4 k7 hR hA hF
              rintro w15 ⟨k0, k1, k2, k3, k4, k7, hR, hA, hF, hB⟩
              replace hR := Lib.hid hR
              replace hA := Lib.hid hA
              replace hF := Lib.hid hF
              clear cfrom2 hxl hyl hi01 hmS hab hA k7 hpk hp
              go_wp2_with fail
              exact ⟨⟨k + 1, h', ys, g2, cap2, g3, cap3, by omega, by omega, by go_num, hfold'.out, hJ.out, k0, k1, k2, k3, k4, hF.out, hR.out, by omega, hB⟩, by simp [intOf]; omega⟩
    · have hlt3 : ¬ ((k : Int) < (m : Int)) ∨ ((k : Int) < (m : Int) ∧ ¬ ((k : Int) < 20)) := by omega
      have hbuild : buildP cs n ps = (h, xs) := by
        unfold buildP
        have hmo := hm.out
        rcases Nat.lt_or_ge k 20 with h1 | h1
        · rw [← hfold.out, List.take_of_length_le (by omega), List.take_of_length_le (by omega)]
        · rw [← hfold.out, show k = 20 by omega]
      replace hbuild := Lib.hid hbuild
      have hgE := elem_ge hE
      have hgR := elem_ge hR
      replace hE := Lib.hid hE
      replace hR := Lib.hid hR
      have mkS : ∀ W : World, W.heap[w3.heap.size]? = some (.cells #[.int .i64 0, .int .i64 h, .slice (some ⟨ge, 0, none⟩) n cape] 28 (0, 0)) → W.heap[w3.heap.size + 1]? = some (.cells #[.int .i64 0, .int .i64 h, .slice (some ⟨gw, 0, none⟩) n capw] 32 (0, 0)) → W.cell? ⟨w3.heap.size, 0, none⟩ = some (.int .i64 0) ∧ W.cell? ⟨w3.heap.size, 1, none⟩ = some (.int .i64 h) ∧ W.cell? ⟨w3.heap.size, 2, none⟩ = some (.slice (some ⟨ge, 0, none⟩) n cape) ∧ W.cell? ⟨w3.heap.size + 1, 0, none⟩ = some (.int .i64 0) ∧ W.cell? ⟨w3.heap.size + 1, 1, none⟩ = some (.int .i64 h) ∧ W.cell? ⟨w3.heap.size + 1, 2, none⟩ = some (.slice (some ⟨gw, 0, none⟩) n capw) := fun W k3 k4 => ⟨row_of k3 0, row_of k3 1, row_of k3 2, row_of k4 0, row_of k4 1, row_of k4 2⟩
      have mkD : ∀ W : World, W.heap[w3.heap.size]? = some (.cells #[.int .i64 0, .int .i64 h, .slice (some ⟨ge, 0, none⟩) n cape] 28 (0, 0)) → W.heap[w3.heap.size + 1]? = some (.cells #[.int .i64 0, .int .i64 h, .slice (some ⟨gw, 0, none⟩) n capw] 32 (0, 0)) → (fun W => W.cell? ⟨w3.heap.size, 0, none⟩ = some (.int .i64 0) ∧ W.cell? ⟨w3.heap.size, 1, none⟩ = some (.int .i64 h) ∧ W.cell? ⟨w3.heap.size, 2, none⟩ = some (.slice (some ⟨ge, 0, none⟩) n cape) ∧ W.cell? ⟨w3.heap.size + 1, 0, none⟩ = some (.int .i64 0) ∧ W.cell? ⟨w3.heap.size + 1, 1, none⟩ = some (.int .i64 h) ∧ W.cell? ⟨w3.heap.size + 1, 2, none⟩ = some (.slice (some ⟨gw, 0, none⟩) n capw)) W.drew := fun W k3 k4 => mkS W.drew k3 k4
      dsimp only at mkD
      have k3d : wr.drew.heap[w3.heap.size]? = _ := k3
      have k4d : wr.drew.heap[w3.heap.size + 1]? = _ := k4
      have n30 : w3.heap.size ≠ w.heap.size := by omega
      have n31 : w3.heap.size ≠ w.heap.size + 1 := by omega
      have n40 : w3.heap.size + 1 ≠ w.heap.size := by omega
      have n41 : w3.heap.size + 1 ≠ w.heap.size + 1 := by omega
      clear hlt hI hfold
      rcases hlt3 with hlt2 | ⟨hlt2, hk02⟩
      · have r0 := row_of k0
        have f0 := frozen_of k0
        have r1 := row_of k1
        have f1 := frozen_of k1
        have z0 := blk_lt k0
        have z1 := blk_lt k1
        go_upto_region 15 with fail
        go_region_held3 (fun W => W.cell? ⟨w3.heap.size, 0, none⟩ = some (.int .i64 0) ∧ W.cell? ⟨w3.heap.size, 1, none⟩ = some (.int .i64 h) ∧ W.cell? ⟨w3.heap.size, 2, none⟩ = some (.slice (some ⟨ge, 0, none⟩) n cape) ∧ W.cell? ⟨w3.heap.size + 1, 0, none⟩ = some (.int .i64 0) ∧ W.cell? ⟨w3.heap.size + 1, 1, none⟩ = some (.int .i64 h) ∧ W.cell? ⟨w3.heap.size + 1, 2, none⟩ = some (.slice (some ⟨gw, 0, none⟩) n capw))
          (first | (with_reducible exact mkD _ k3 k4) | (with_reducible exact mkD _ (blk_set (blk_set (blk_set k3 n30) n30) n30) (blk_set (blk_set (blk_set k4 n40) n40) n40)) | (with_reducible exact mkD _ (blk_set (blk_set (blk_set k3 n31) n31) n31) (blk_set (blk_set (blk_set k4 n41) n41) n41)) | (with_reducible exact mkD _ (blk_set (blk_set (blk_set (blk_set (blk_set (blk_set k3 n30) n30) n30) n31) n31) n31) (blk_set (blk_set (blk_set (blk_set (blk_set (blk_set k4 n40) n40) n40) n41) n41) n41)) | (with_reducible exact mkD _ (blk_set (blk_set (blk_set (blk_set (blk_set (blk_set k3 n31) n31) n31) n30) n30) n30) (blk_set (blk_set (blk_set (blk_set (blk_set (blk_set k4 n41) n41) n41) n40) n40) n40)) | (with_reducible exact mkS _ k3d k4d) | (with_reducible exact mkS _ (blk_set (blk_set (blk_set k3d n30) n30) n30) (blk_set (blk_set (blk_set k4d n40) n40) n40)) | (with_reducible exact mkS _ (blk_set (blk_set (blk_set k3d n31) n31) n31) (blk_set (blk_set (blk_set k4d n41) n41) n41)) | (with_reducible exact mkS _ (blk_set (blk_set (blk_set (blk_set (blk_set (blk_set k3d n30) n30) n30) n31) n31) n31) (blk_set (blk_set (blk_set (blk_set (blk_set (blk_set k4d n40) n40) n40) n41) n41) n41)) | (with_reducible exact mkS _ (blk_set (blk_set (blk_set (blk_set (blk_set (blk_set k3d n31) n31) n31) n30) n30) n30) (blk_set (blk_set (blk_set (blk_set (blk_set (blk_set k4d n41) n41) n41) n40) n40) n40)) | (with_reducible exact mkS _ k3 k4) | (with_reducible exact mkS _ (blk_set (blk_set (blk_set k3 n30) n30) n30) (blk_set (blk_set (blk_set k4 n40) n40) n40)) | (with_reducible exact mkS _ (blk_set (blk_set (blk_set k3 n31) n31) n31) (blk_set (blk_set (blk_set k4 n41) n41) n41)) | (with_reducible exact mkS _ (blk_set (blk_set (blk_set (blk_set (blk_set (blk_set k3 n30) n30) n30) n31) n31) n31) (blk_set (blk_set (blk_set (blk_set (blk_set (blk_set k4 n40) n40) n40) n41) n41) n41)) | (with_reducible exact mkS _ (blk_set (blk_set (blk_set (blk_set (blk_set (blk_set k3 n31) n31) n31) n30) n30) n30) (blk_set (blk_set (blk_set (blk_set (blk_set (blk_set k4 n41) n41) n41) n40) n40) n40)))
          (fail)
        all_goals
          go_wp2_with fail
          generalize hWF : (World.setCell (World.setCell (World.setCell (World.setCell (World.setCell (World.setCell _ _ _) _ _) _ _) _ _) _ _) _ _) = WF
          have hP : WF.heap[w.heap.size]? = some (.cells #[.int .i64 0, .int .i64 h, .slice (some ⟨ge, 0, none⟩) n cape] 28 (0, 0)) ∧ WF.heap[w.heap.size + 1]? = some (.cells #[.int .i64 0, .int .i64 h, .slice (some ⟨gw, 0, none⟩) n capw] 32 (0, 0)) ∧ (∀ (b : Nat) (x : Obj), b ≠ w.heap.size → b ≠ w.heap.size + 1 → wr.heap[b]? = some x → WF.heap[b]? = some x) ∧ Below w.heap.size wr WF := by
            first
              | (obtain ⟨p1, p2, p3, p4⟩ := put33 (W := wr) (by omega) k0 k1 _ _ _ _ _ _ hWF.symm; exact ⟨p1, p2, p3, p4 _ (by omega) (by omega)⟩)
              | (obtain ⟨p1, p2, p3, p4⟩ := put33 (W := wr) (by omega) k1 k0 _ _ _ _ _ _ hWF.symm; exact ⟨p2, p1, fun b x h1 h2 => p3 b x h2 h1, p4 _ (by omega) (by omega)⟩)
          obtain ⟨kF, kG, kO, bF⟩ := hP
          clear hWF r0 f0 r1 f1 z0 z1 mkS
          have rF := row_of kF
          have rG := row_of kG
          exact bodyPost_ret (v := .tuple #[.agg #[.int .i64 0, .int .i64 h, .slice (some ⟨ge, 0, none⟩) n cape], .agg #[.int .i64 0, .int .i64 h, .slice (some ⟨gw, 0, none⟩) n capw], .bool true]) (by simp [results, Try.results9, go_sem, rF, rG]) rfl ⟨ge, cape, gw, capw, by rw [hbuild.out], by rw [hbuild.out]; exact elem_base (elem_same hE.out (fun x hx => kO _ x (by omega) (by omega) hx)) (by omega), by rw [hbuild.out]; exact elem_base (elem_same hR.out (fun x hx => kO _ x (by omega) (by omega) hx)) (by omega), (hB.trans (bF.mono (Nat.le_refl _))).drew⟩
      · have r0 := row_of k0
        have f0 := frozen_of k0
        have r1 := row_of k1
        have f1 := frozen_of k1
        have z0 := blk_lt k0
        have z1 := blk_lt k1
        go_upto_region 15 with fail
        go_region_held3 (fun W => W.cell? ⟨w3.heap.size, 0, none⟩ = some (.int .i64 0) ∧ W.cell? ⟨w3.heap.size, 1, none⟩ = some (.int .i64 h) ∧ W.cell? ⟨w3.heap.size, 2, none⟩ = some (.slice (some ⟨ge, 0, none⟩) n cape) ∧ W.cell? ⟨w3.heap.size + 1, 0, none⟩ = some (.int .i64 0) ∧ W.cell? ⟨w3.heap.size + 1, 1, none⟩ = some (.int .i64 h) ∧ W.cell? ⟨w3.heap.size + 1, 2, none⟩ = some (.slice (some ⟨gw, 0, none⟩) n capw))
          (first | (with_reducible exact mkD _ k3 k4) | (with_reducible exact mkD _ (blk_set (blk_set (blk_set k3 n30) n30) n30) (blk_set (blk_set (blk_set k4 n40) n40) n40)) | (with_reducible exact mkD _ (blk_set (blk_set (blk_set k3 n31) n31) n31) (blk_set (blk_set (blk_set k4 n41) n41) n41)) | (with_reducible exact mkD _ (blk_set (blk_set (blk_set (blk_set (blk_set (blk_set k3 n30) n30) n30) n31) n31) n31) (blk_set (blk_set (blk_set (blk_set (blk_set (blk_set k4 n40) n40) n40) n41) n41) n41)) | (with_reducible exact mkD _ (blk_set (blk_set (blk_set (blk_set (blk_set (blk_set k3 n31) n31) n31) n30) n30) n30) (blk_set (blk_set (blk_set (blk_set (blk_set (blk_set k4 n41) n41) n41) n40) n40) n40)) | (with_reducible exact mkS _ k3d k4d) | (with_reducible exact mkS _ (blk_set (blk_set (blk_set k3d n30) n30) n30) (blk_set (blk_set (blk_set k4d n40) n40) n40)) | (with_reducible exact mkS _ (blk_set (blk_set (blk_set k3d n31) n31) n31) (blk_set (blk_set (blk_set k4d n41) n41) n41)) | (with_reducible exact mkS _ (blk_set (blk_set (blk_set (blk_set (blk_set (blk_set k3d n30) n30) n30) n31) n31) n31) (blk_set (blk_set (blk_set (blk_set (blk_set (blk_set k4d n40) n40) n40) n41) n41) n41)) | (with_reducible exact mkS _ (blk_set (blk_set (blk_set (blk_set (blk_set (blk_set k3d n31) n31) n31) n30) n30) n30) (blk_set (blk_set (blk_set (blk_set (blk_set (blk_set k4d n41) n41) n41) n40) n40) n40)) | (with_reducible exact mkS _ k3 k4) | (with_reducible exact mkS _ (blk_set (blk_set (blk_set k3 n30) n30) n30) (blk_set (blk_set (blk_set k4 n40) n40) n40)) | (with_reducible exact mkS _ (blk_set (blk_set (blk_set k3 n31) n31) n31) (blk_set (blk_set (blk_set k4 n41) n41) n41)) | (with_reducible exact mkS _ (blk_set (blk_set (blk_set (blk_set (blk_set (blk_set k3 n30) n30) n30) n31) n31) n31) (blk_set (blk_set (blk_set (blk_set (blk_set (blk_set k4 n40) n40) n40) n41) n41) n41)) | (with_reducible exact mkS _ (blk_set (blk_set (blk_set (blk_set (blk_set (blk_set k3 n31) n31) n31) n30) n30) n30) (blk_set (blk_set (blk_set (blk_set (blk_set (blk_set k4 n41) n41) n41) n40) n40) n40)))
          (fail)
        all_goals
          go_wp2_with fail
          generalize hWF : (World.setCell (World.setCell (World.setCell (World.setCell (World.setCell (World.setCell _ _ _) _ _) _ _) _ _) _ _) _ _) = WF
          have hP : WF.heap[w.heap.size]? = some (.cells #[.int .i64 0, .int .i64 h, .slice (some ⟨ge, 0, none⟩) n cape] 28 (0, 0)) ∧ WF.heap[w.heap.size + 1]? = some (.cells #[.int .i64 0, .int .i64 h, .slice (some ⟨gw, 0, none⟩) n capw] 32 (0, 0)) ∧ (∀ (b : Nat) (x : Obj), b ≠ w.heap.size → b ≠ w.heap.size + 1 → wr.heap[b]? = some x → WF.heap[b]? = some x) ∧ Below w.heap.size wr WF := by
            first
              | (obtain ⟨p1, p2, p3, p4⟩ := put33 (W := wr) (by omega) k0 k1 _ _ _ _ _ _ hWF.symm; exact ⟨p1, p2, p3, p4 _ (by omega) (by omega)⟩)
              | (obtain ⟨p1, p2, p3, p4⟩ := put33 (W := wr) (by omega) k1 k0 _ _ _ _ _ _ hWF.symm; exact ⟨p2, p1, fun b x h1 h2 => p3 b x h2 h1, p4 _ (by omega) (by omega)⟩)
          obtain ⟨kF, kG, kO, bF⟩ := hP
          clear hWF r0 f0 r1 f1 z0 z1 mkS
          have rF := row_of kF
          have rG := row_of kG
          exact bodyPost_ret (v := .tuple #[.agg #[.int .i64 0, .int .i64 h, .slice (some ⟨ge, 0, none⟩) n cape], .agg #[.int .i64 0, .int .i64 h, .slice (some ⟨gw, 0, none⟩) n capw], .bool true]) (by simp [results, Try.results9, go_sem, rF, rG]) rfl ⟨ge, cape, gw, capw, by rw [hbuild.out], by rw [hbuild.out]; exact elem_base (elem_same hE.out (fun x hx => kO _ x (by omega) (by omega) hx)) (by omega), by rw [hbuild.out]; exact elem_base (elem_same hR.out (fun x hx => kO _ x (by omega) (by omega) hx)) (by omega), (hB.trans (bF.mono (Nat.le_refl _))).drew⟩
end Go.Proofs.Ytgepaajhccadhaa
