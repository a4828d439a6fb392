/-
  QueueHas' walk.
-/
import Derived.Test.YtgepaajhccadhaaQo
import Derived.Test.YtgepaajhccadhaaQp
namespace Go.Proofs.Ytgepaajhccadhaa
open Go.RowKit
/-- A row of pairs that came in: nothing, or its cells. -/
def PairRow (w : World) (A : Option Addr) (len cap : Nat) : Prop := len = 0 ∨ ∃ ad : Addr, A = some ad ∧ len ≤ cap ∧ cap ≤ 9223372036854775807 ∧ ad.block < w.heap.size ∧ ∀ i, i < len → ∃ v0 v1 : Int, w.cell? (ad.add (i * 2)) = some (.int .i64 v0) ∧ w.cell? (ad.add (i * 2 + 1)) = some (.int .i64 v1)
def QhRel (w : World) (b : Nat) (K : Int) (len : Nat) (vi va : Value) (wr : World) : Prop := ∃ (k m : Nat) (h : Int) (xs ms : List (Int × Int)) (g cap : Nat) (A : Option Addr) (ca : Nat), k ≤ len ∧ k ≤ 20 ∧ vi = .int .i64 k ∧ va = .slice A m ca ∧ QInv K h xs ms ∧ ms.length = m ∧ PRow wr A ms ∧ wr.heap[w.heap.size]? = some (.cells #[.int .i64 0, .int .i64 K, .int .i64 0, .int .i64 0, .int .i64 4, .slice none 0 0] 42 (0, 0)) ∧ wr.heap[b]? = some (.cells #[.int .i64 0, .int .i64 h, .slice (some ⟨g, 0, none⟩) 4 cap] 28 (0, 0)) ∧ ElemAt wr w.heap.size 25 g cap xs ∧ Below w.heap.size w wr
def MsgCut (W0 : World) (e : Value) (wx : World) : Prop := ∃ (n : Nat) (T V : Int), e = .pointer (some ⟨n, 0, none⟩) ∧ W0.heap.size ≤ n ∧ wx.heap[n]? = some (.cells #[.int .i64 T, .int .i64 V] 47 (0, 0)) ∧ (∃ t : Nat, t < 4 ∧ T = (t : Int)) ∧ -2147483648 ≤ V ∧ V ≤ 2147483647 ∧ Below W0.heap.size W0 wx
def AllCut (W0 : World) (n : Nat) (ms : List (Int × Int)) (e : Value) (wx : World) : Prop := ∃ g cap, e = .slice (some ⟨g, 0, none⟩) n cap ∧ ElemAt wx W0.heap.size 47 g cap ms ∧ Below W0.heap.size W0 wx
def ElemCut (W0 : World) (l h : Int) (n : Nat) (xs : List (Int × Int)) (e : Value) (wx : World) : Prop := ∃ x g cap, e = .pointer (some ⟨x, 0, none⟩) ∧ W0.heap.size ≤ x ∧ wx.heap[x]? = some (.cells #[.int .i64 l, .int .i64 h, .slice (some ⟨g, 0, none⟩) n cap] 28 (0, 0)) ∧ ElemAt wx W0.heap.size 25 g cap xs ∧ Below W0.heap.size W0 wx
theorem prow_flat {w : World} {a : Addr} {xs : List (Int × Int)} (h : PRow w (some a) xs) : ∀ (j : Nat) (u : Value), (cellsOf xs)[j]? = some u → w.cell? (a.add j) = some u := by
  intro j u hu
  have hj : j < xs.length * 2 := by
    have := cellsOf_len xs
    rcases Nat.lt_or_ge j (cellsOf xs).length with h | h
    · omega
    · rw [List.getElem?_eq_none h] at hu; cases hu
  obtain ⟨p0, p1, hp⟩ := pair_at rfl (show j / 2 < xs.length by omega)
  obtain ⟨a', ha, _, c0, c1⟩ := prow_at h hp
  injection ha with ha
  subst ha
  have hc := cellsOf_at xs (j / 2) _ hp
  rcases Nat.mod_two_eq_zero_or_one j with hm | hm
  · have e : j / 2 * 2 = j := by omega
    rw [e] at hc c0
    rw [hc.1] at hu
    cases hu
    exact c0
  · have e : j / 2 * 2 + 1 = j := by omega
    rw [← add_one, e] at c1
    rw [e] at hc
    rw [hc.2] at hu
    cases hu
    exact c1
theorem prow_tail {W : World} {base : Nat} {t : TypeId} {g cap : Nat} {xs : List (Int × Int)} (h : ElemAt W base t g cap xs) : PRow W (some ⟨g, 2, none⟩) xs.tail := by
  refine .inr ⟨⟨g, 2, none⟩, rfl, (elem_ge h).2, fun k p0 p1 hp => ?_⟩
  rw [List.getElem?_tail] at hp
  have hk : k + 1 < xs.length := by rcases Nat.lt_or_ge (k + 1) xs.length with h | h; exact h; rw [List.getElem?_eq_none h] at hp; cases hp
  have e : (⟨g, 2, none⟩ : Addr).add (k * 2) = ⟨g, (k + 1) * 2, none⟩ := by
    have e0 := Addr.add_add (⟨g, 0, none⟩ : Addr) 2 (k * 2)
    have e1 : ∀ n, 0 < n → (⟨g, 0, none⟩ : Addr).add n = ⟨g, n, none⟩ := fun n hn => by simp [Addr.add]; try omega
    rw [e1 2 (by decide), e1 (2 + k * 2) (by omega)] at e0
    rw [e0, show 2 + k * 2 = (k + 1) * 2 by omega]
  rw [e]
  exact elem_cells h rfl hk hp
theorem cellsOf_push (ms : List (Int × Int)) (t v : Int) : cellsOf ms ++ [.int .i64 t, .int .i64 v] = cellsOf (ms ++ [(t, v)]) := by simp [cellsOf]
theorem elem_cap {W : World} {b : Nat} {t : TypeId} {g cap : Nat} {xs : List (Int × Int)} (h : ElemAt W b t g cap xs) : xs.length ≤ cap ∧ cap ≤ maxLen := by
  rcases h.2 with ⟨h0, _⟩ | ⟨g', cap', cur, hv, _, _, h1, h2, _⟩
  · cases h0
  · cases hv
    exact ⟨h1, h2⟩
def TailCut (W0 : World) (b : Nat) (ms : List (Int × Int)) (e : Value) (wx : World) : Prop := ∃ (A' : Option Addr) (m' ca' : Nat), e = .slice A' m' ca' ∧ ms.length = m' ∧ PRow wx A' ms ∧ (∀ a, A' = some a → a.block ≠ b) ∧ W0 = wx
theorem prow_put {W : World} {n : Nat} {u v x : Value} {A : Option Addr} {xs : List (Int × Int)} (h : PRow W A xs) (hne : ∀ a, A = some a → a.block ≠ n) : PRow (((W.setCell ⟨n, 0, none⟩ u).setCell ⟨n, 1, none⟩ v).setCell ⟨n, 2, none⟩ x) A xs := by
  rcases h with h | ⟨a, rfl, hab, hc⟩
  · exact .inl h
  · have hn := hne a rfl
    have hb : (((W.setCell ⟨n, 0, none⟩ u).setCell ⟨n, 1, none⟩ v).setCell ⟨n, 2, none⟩ x).heap[a.block]? = W.heap[a.block]? := by
      obtain ⟨o, ho⟩ : ∃ o, W.heap[a.block]? = some o := ⟨_, Array.getElem?_eq_getElem hab⟩
      rw [ho]
      exact blk_set (blk_set (blk_set ho hn) hn) hn
    have hce : ∀ p : Addr, p.block = a.block → (((W.setCell ⟨n, 0, none⟩ u).setCell ⟨n, 1, none⟩ v).setCell ⟨n, 2, none⟩ x).cell? p = W.cell? p := by
      intro p hp
      unfold World.cell?
      rw [hp, hb]
    refine .inr ⟨a, rfl, by simpa [World.setCell] using hab, fun k p0 p1 hp => ?_⟩
    rw [hce _ (add_block _ _), hce _ (by simp [add_block])]
    exact hc k p0 p1 hp
theorem own_emptyQ {W : World} {b g : Nat} (e : TypeId) (size : Nat) (h : W.heap[g]? = some (.cells #[] e (0, 0))) (hb : b ≤ g) : W.ownsRow b e size (.slice (some ⟨g, 0, none⟩) 0 0) 0 [] :=
  ⟨by simp, .inr ⟨g, 0, #[], rfl, hb, h, Nat.le_refl _, by unfold maxLen; decide, by simp, by simp⟩⟩
theorem info_msg : (Try.prog.info? 47).map (fun i => (i.zero, i.size, i.bytes)) = some (some (.agg #[.int .i64 0, .int .i64 0]), 2, 16) := by kernel_rfl
theorem run_append_none {P : Program} (t ty e : TypeId) (i : TypeInfo) (ht : P.underlying t = some (.slice e)) (hi : P.info? e = some i) (ad : Addr) (A : Option Addr) (c : Nat) (w : World) :
    (Builtin.append_ #[t, t] ty #[.slice (some ad) 0 0, .slice A 0 c]).run P w = .ok (.slice (some ad) 0 0) w := by
  cases A with
  | none => simp [Builtin.append_, run_underlying ht, sizeOf, typeInfo, hi, Builtin.lenOf, Builtin.firstCells, storeCells]
  | some ad => simp [Builtin.append_, run_underlying ht, sizeOf, typeInfo, hi, Builtin.lenOf, Builtin.firstCells, loadCells, loadCellsFrom, storeCells]
theorem step_append_none {P : Program} {w : World} {ops : Array Oper} {o : Oper} {a : Act} {K : Act → World → Prop} {Q : Exit → Act → World → Prop} {E : Prop} (hgd : o.guard = none) (s x : Operand) (t : TypeId)
    (ho : o.op = .call { callee := .builtin .append, args := #[s, x], argTypes := #[t, t] }) (e : TypeId) (i : TypeInfo) (ht : P.underlying t = some (.slice e)) (hi : P.info? e = some i)
    (ad : Addr) (hs : a.eval s = .slice (some ad) 0 0) (A : Option Addr) (c : Nat) (hx : a.eval x = .slice A 0 c) (h : K (a.put o.dst (.slice (some ad) 0 0)) w) :
    if Region.wanted o (yielded ops a.tmps) = true then Oper.wp P o a w K Q else E := by
  have hw : Region.wanted o (yielded ops a.tmps) = true := by simp [Region.wanted, hgd]
  rw [if_pos hw]
  have hr := run_append_none (P := P) t o.type e i ht hi ad A c w
  unfold Oper.wp execOp
  simp only [ho, resolve, invoke, builtin, Sem.run_bind, Sem.run_pure, Result.andThen_ok, List.map_toArray, List.map_cons, List.map_nil, hs, hx, hr]
  exact h
theorem al_size (W : World) (x : Obj) : (W.alloc x).heap.size = W.heap.size + 1 := by simp only [World.size_alloc]
theorem own_le {g n c B : Nat} (h : B ≤ g) : ∀ b, (Value.slice (some ⟨g, 0, none⟩) n c).ownBlock = some b → B ≤ b := by
  intro b e
  simp only [Value.ownBlock, Option.some.injEq] at e
  omega
theorem own_ne {g n c b : Nat} (h : g ≠ b) : (Value.slice (some ⟨g, 0, none⟩) n c).ownBlock ≠ some b := by
  intro e
  simp only [Value.ownBlock, Option.some.injEq] at e
  exact h e
theorem fourthI (n : Int) : ∃ t : Nat, t < 4 ∧ IntKind.i64.wrap ((IntKind.u64.wrap n).tmod 4) = (t : Int) := by
  have h0 : 0 ≤ IntKind.u64.wrap n := by simp [IntKind.wrap, IntKind.bits, IntKind.signed]; omega
  generalize IntKind.u64.wrap n = u at *
  have h1 := Int.tmod_nonneg 4 h0
  have h2 : u.tmod 4 < 4 := by rw [Int.tmod_eq_emod_of_nonneg h0]; omega
  generalize u.tmod 4 = r at *
  refine ⟨r.toNat, by omega, ?_⟩
  simp [IntKind.wrap, IntKind.bits, IntKind.signed]
  omega
set_option maxRecDepth 100000 in
set_option maxHeartbeats 8000000 in
theorem has_probe (size : Int) (A0 : Option Addr) (len cap0 : Nat) (w : World) (hl : PairRow w A0 len cap0) (_hlen : len ≤ 9223372036854775807) :
    Calls Try.prog 4 #[.int .i64 size, .slice A0 len cap0] w fun e w' => e = .returned (.bool true) ∧ Below w.heap.size w w' := by
  replace hl := Lib.hid hl
  have hsz := Lib.hid (sixteenth size)
  obtain ⟨im, him, im0, im1, im2⟩ := info_parts info_msg
  replace him := Lib.hid him
  go_enter Try.func4, Try.ntmps4
  go_upto_region 1 with fail
  go_cut [5] from 13 to 17 (fun e5 wx => ∃ K : Int, 1 ≤ K ∧ K ≤ 16 ∧ e5 = .int .i64 K ∧ w = wx)
  case first =>
    as_aux_lemma =>
      go_wp2_with fail
      go_meet
      exact ⟨_, hsz.out.1, hsz.out.2, rfl, rfl⟩
  case rest =>
    as_aux_lemma =>
      obtain ⟨K, hK1, hK2, rfl, rfl⟩ := hcut
      clear hsz
      go_upto_region 3 with fail
      refine wp_world (fun W => W.heap[w.heap.size]? = some (.cells #[.int .i64 0, .int .i64 K, .int .i64 0, .int .i64 0, .int .i64 4, .slice none 0 0] 42 (0, 0)) ∧ Below w.heap.size w W) ⟨blkA _ _ (by first | rfl | simp only [World.size_alloc]), (Below.refl _ _).alloc (by first | exact Nat.le_refl _ | (simp only [World.size_alloc]; omega)) _⟩ ?_
      rintro w1 ⟨k0, hB⟩
      have r0 := row_of k0
      have f0 := frozen_of k0
      have z0 := blk_lt k0
      have cn := none_n 0 K 0 0 none 0 0 4 (.inr (.inr (.inr rfl))) w1
      go_wp2_with fail
      refine cn.mono ?_
      rintro e w2 ⟨g0, cap0', rfl, hE, hb⟩
      clear cn
      replace k0 := blk_keep hb k0
      replace hE := elem_base hE hB.size
      have hw0 := blk_lt k0
      replace hB := hB.trans (hb.mono hB.size)
      clear hb r0 f0 z0
      go_wp2_with fail
      have hw2 := hB.size
      go_loopw [9, 8] (fun vi va wr => QhRel w w2.heap.size K len vi va wr) (fun i _ _ => len - (intOf i).toNat)
      case atStart => exact ⟨0, 0, 0, _, [], g0, cap0', none, 0, Nat.zero_le _, Nat.zero_le _, rfl, rfl, starts_ok K hK1, rfl, prow_nil _ _, blkUp k0 _, blkA _ _ rfl, elem_up hE _, hB.alloc hB.size _⟩
      case round =>
        clear hB hE k0
        obtain ⟨k, m, h, xs, ms, ge, cape, A, ca, hk, hk20, rfl, rfl, hI, hml, hP, k0, k1, hE, hB⟩ := hrel
        replace hI := Lib.hid hI
        replace hml := Lib.hid hml
        replace hP := Lib.hid hP
        replace hE := Lib.hid hE
        by_cases hlt : k < len ∧ k < 20
        · have hlt2 : (k : Int) < (len : Int) := by omega
          have hk02 : (k : Int) < 20 := by omega
          have hk0 : (0 : Int) ≤ (k : Int) := by omega
          obtain ⟨ad, rfl, hlc, hcap, hb0, hcell⟩ : ∃ ad : Addr, A0 = some ad ∧ len ≤ cap0 ∧ cap0 ≤ 9223372036854775807 ∧ ad.block < w.heap.size ∧ ∀ i, i < len → ∃ v0 v1 : Int, w.cell? (ad.add (i * 2)) = some (.int .i64 v0) ∧ w.cell? (ad.add (i * 2 + 1)) = some (.int .i64 v1) := by rcases hl.out with h | h; (exact absurd h (by omega)); exact h
          obtain ⟨v0, v1, hv0, hv1⟩ := hcell k hlt.1
          have hab : (ad.add (k * 2)).block < w.heap.size := by rw [add_block]; exact hb0
          rw [add_one] at hv1
          clear hcell hlt
          go_upto_region 8 with fail
          have mkS : ∀ W, Below wr.heap.size wr W → W.cell? (ad.add (k * 2)) = some (.int .i64 v0) ∧ W.cell? ⟨(ad.add (k * 2)).block, (ad.add (k * 2)).off + 1, none⟩ = some (.int .i64 v1) := fun W h => ⟨((hB.trans (h.mono hB.size)).cell (p := ad.add (k * 2)) hab).trans hv0, ((hB.trans (h.mono hB.size)).cell (p := ⟨(ad.add (k * 2)).block, (ad.add (k * 2)).off + 1, none⟩) hab).trans hv1⟩
          clear hv0 hv1
          go_cut [10] from 32 to 47 (fun e wx => MsgCut wr e wx)
          case first =>
            as_aux_lemma =>
              have hBn := Below.refl wr.heap.size wr
              clear hB k0 k1
              go_region_held3 (fun W => W.cell? (ad.add (k * 2)) = some (.int .i64 v0) ∧ W.cell? ⟨(ad.add (k * 2)).block, (ad.add (k * 2)).off + 1, none⟩ = some (.int .i64 v1))
                (first | (with_reducible exact mkS _ hBn) | (with_reducible exact mkS _ (Below.drew hBn)) | (with_reducible exact mkS _ (below_al hBn _)) | (with_reducible exact mkS _ (Below.drew (below_al hBn _))))
                (fail)
              all_goals
                go_wp2_with fail
                go_meet
                refine ⟨_, _, _, rfl, ?_, blkA _ _ rfl, fourthI v0, ?_, ?_, ?_⟩
                · exact Nat.le_refl _
                · simp [IntKind.wrap, IntKind.bits, IntKind.signed]; omega
                · simp [IntKind.wrap, IntKind.bits, IntKind.signed]; omega
                · exact below_al (Below.drew hBn) _
          case rest =>
            as_aux_lemma =>
              obtain ⟨gm, T, v, rfl, hgm, k2, ⟨t, ht4, rfl⟩, hv1, hv2, hb⟩ := hcut
              clear mkS
              have hw1 := blk_lt k1
              have hw0' := blk_lt k0
              replace k0 := blk_keep hb k0
              replace k1 := blk_keep hb k1
              replace hP := Lib.hid (prow_keep hP.out hb)
              replace hE := Lib.hid (elem_keep hE.out hb)
              replace hB := hB.trans (hb.mono hB.size)
              clear hb
              obtain ⟨h', ys, hsend, hyl, hh', hyin, hokm, hokp, hinp⟩ := qstep hI.out hK1 hK2 ht4 hv1 hv2
              have hN := push_ok hI.out hK1 hyl hyin hokm hokp
              rw [← hh'] at hN
              have hIh : h ≤ K ∧ (ms.length : Int) = h := ⟨hI.out.2.2.1, hI.out.2.1⟩
              have hIl : xs.length = 4 := hI.out.1
              replace hN := Lib.hid hN
              have hpush : pushP K ms ((t : Int), v) = (if (ms.length : Int) < K then ms ++ [((t : Int), v)] else (ms ++ [((t : Int), v)]).tail) := rfl
              generalize pushP K ms ((t : Int), v) = ms' at hN hpush
              have has1 : hasP 0 h' ys ms = true := has_of hokm (by rw [hh']; split <;> omega)
              have has2 : hasP 0 h' ys ms' = true := has_of hN.out.2.2.2.2 (by have := hN.out.2.1; omega)
              have has3 : hasP 0 h' ys [] = true := has_of (fun p hp => by cases hp) (by rw [hh']; simp; split <;> omega)
              have hl16 : m ≤ 16 := by have := hml.out; omega
              have hIh2 : (m : Int) ≤ K := by have := hml.out; omega
              have hmK : (ms.length : Int) < K ↔ (m : Int) < K := by rw [hml.out]
              rw [hml.out] at hIh
              replace hpush := Lib.hid hpush
              replace hmK := Lib.hid hmK
              replace hsend := Lib.hid hsend
              replace hinp := Lib.hid hinp
              replace has1 := Lib.hid has1
              replace has2 := Lib.hid has2
              replace has3 := Lib.hid has3
              replace hIl := Lib.hid hIl
              replace hyl := Lib.hid hyl
              have hhb : -9223372036854775808 ≤ h := by omega
              clear hh' hyin hokm hokp hI hIh
              go_upto_region 10 with fail
              refine wp_world (fun W => W.heap[w.heap.size]? = some (.cells #[.int .i64 0, .int .i64 K, .int .i64 0, .int .i64 0, .int .i64 4, .slice none 0 0] 42 (0, 0)) ∧ W.heap[w2.heap.size]? = some (.cells #[.int .i64 0, .int .i64 h, .slice (some ⟨ge, 0, none⟩) 4 cape] 28 (0, 0)) ∧ W.heap[gm]? = some (.cells #[.int .i64 (t : Int), .int .i64 v] 47 (0, 0)) ∧ PRow W A ms ∧ ElemAt W w.heap.size 25 ge cape xs ∧ Below w.heap.size w W) ⟨k0, k1, k2, hP.out, hE.out, hB⟩ ?_
              clear k0 k1 k2 hP hE hB
              rintro w5 ⟨k0, k1, k2, hP, hE, hB⟩
              replace hP := Lib.hid hP
              replace hE := Lib.hid hE
              obtain ⟨m1, hm1⟩ : ∃ m1, m + 1 = m1 := ⟨_, rfl⟩
              replace hm1 := Lib.hid hm1
              go_cut [8] from 49 to 54 (fun e wx => AllCut w5 m1 (ms ++ [((t : Int), v)]) e wx)
              case first =>
                as_aux_lemma =>
                  obtain rfl := hm1.out
                  clear hm1
                  have mkS : ∀ W, Below w5.heap.size w5 W → W.cell? ⟨gm, 0, none⟩ = some (.int .i64 (t : Int)) ∧ W.cell? ⟨gm, 1, none⟩ = some (.int .i64 v) := fun W h => ⟨row_of (blk_keep h k2) 0, row_of (blk_keep h k2) 1⟩
                  have hBn := Below.refl w5.heap.size w5
                  have hBd := hBn.drew
                  have hln := Lib.hid (show (cellsOf ms).length = m * 2 by rw [cellsOf_len, hml.out])
                  clear hB k0 k1 k2
                  by_cases hm0 : m = 0
                  · obtain rfl : ms = [] := List.length_eq_zero_iff.mp (hml.out.trans hm0)
                    subst hm0
                    clear hln
                    go_region_held3 (fun W => W.cell? ⟨gm, 0, none⟩ = some (.int .i64 (t : Int)) ∧ W.cell? ⟨gm, 1, none⟩ = some (.int .i64 v))
                      (first | (with_reducible exact mkS _ hBn) | (with_reducible exact mkS _ hBd) | (with_reducible exact mkS _ (below_al hBd _)) | (with_reducible exact mkS _ (below_al (below_al hBd _) _)) | (with_reducible exact mkS _ hB3) | (with_reducible exact mkS _ hB2) | (with_reducible exact mkS _ (below_al hB2 _)) | exact mkS _ (below_al hBd _) | exact mkS _ (below_al (below_al hBd _) _))
                      (first
                        | (refine step_append_none (by rfl) _ _ _ (by rfl) 47 im Try.underlying44 him.out ⟨w5.heap.size, 0, none⟩ ?_ A ca ?_ ?_; (focus (go_simp; done)); (focus (go_simp; done)))
                        | (refine step_append_none (by rfl) _ _ _ (by rfl) 47 im Try.underlying44 him.out ⟨w5.heap.size + 1, 0, none⟩ ?_ A ca ?_ ?_; (focus (go_simp; done)); (focus (go_simp; done)))
                        | (refine step_append_lies _ (by rfl) _ _ _ (by rfl) w5.heap.size 47 im _ 2 16 Try.underlying44 him.out im0 im1 im2 rfl (by decide) (.slice (some ⟨w5.heap.size, 0, none⟩) 0 0) 0 [] ?_ (own_emptyQ _ _ (blkUp (blkA _ _ rfl) _) (by omega)) ⟨w5.heap.size + 1, 0, none⟩ 1 1 [.int .i64 (t : Int), .int .i64 v] ?_ (by rfl) (World.news_of_block (cs := #[.int .i64 (t : Int), .int .i64 v]) (t := 47) (fr := (0, 0)) (blkA _ _ (by first | rfl | simp only [World.size_alloc]))) (by simp [Value.oneCell']) (by decide) (by unfold maxLen; omega) (by omega) (by simp; omega) (w5.heap.size + 2) (by simp) ?_; (focus (go_simp; done)); (focus (go_simp; done)); intro gg cap w6 hown hgrow hat hlg; have hB3 := below_grown hgrow (below_al (below_al hBd _) _) (Nat.le_refl _) (fun b hb => by simp [Value.ownBlock] at hb; omega); replace hown := Lib.hid hown; clear hgrow hat hlg)
                        | (refine step_append_lies _ (by rfl) _ _ _ (by rfl) w5.heap.size 47 im _ 2 16 Try.underlying44 him.out im0 im1 im2 rfl (by decide) (.slice (some ⟨w5.heap.size + 1, 0, none⟩) 0 0) 0 [] ?_ (own_emptyQ _ _ (blkA _ _ (by first | rfl | simp only [World.size_alloc])) (by omega)) ⟨w5.heap.size, 0, none⟩ 1 1 [.int .i64 (t : Int), .int .i64 v] ?_ (by rfl) (World.news_of_block (cs := #[.int .i64 (t : Int), .int .i64 v]) (t := 47) (fr := (0, 0)) (blkUp (blkA _ _ rfl) _)) (by simp [Value.oneCell']) (by decide) (by unfold maxLen; omega) (by omega) (by simp; omega) (w5.heap.size + 2) (by simp) ?_; (focus (go_simp; done)); (focus (go_simp; done)); intro gg cap w6 hown hgrow hat hlg; have hB3 := below_grown hgrow (below_al (below_al hBd _) _) (Nat.le_refl _) (fun b hb => by simp [Value.ownBlock] at hb; omega); replace hown := Lib.hid hown; clear hgrow hat hlg))
                    all_goals
                      go_wp2_with fail
                      go_meet
                      refine ⟨_, _, rfl, ?_, ?_⟩
                      · have u := hown.out
                        rw [List.nil_append, Nat.zero_add] at u
                        exact u
                      · exact hB3
                  · obtain ⟨a, rfl⟩ : ∃ a : Addr, A = some a := by
                      rcases hP.out with h | ⟨a, h, _⟩
                      · exact absurd (by rw [← hml.out, h]; rfl) hm0
                      · exact ⟨a, h⟩
                    have hm1 : 0 < m := by omega
                    have hfl := Lib.hid (fun W (h : Below w5.heap.size w5 W) => prow_flat (prow_keep hP.out h))
                    clear hm0
                    go_region_held3 (fun W => W.cell? ⟨gm, 0, none⟩ = some (.int .i64 (t : Int)) ∧ W.cell? ⟨gm, 1, none⟩ = some (.int .i64 v))
                      (first | (with_reducible exact mkS _ hBn) | (with_reducible exact mkS _ hBd) | (with_reducible exact mkS _ (below_al hBd _)) | (with_reducible exact mkS _ (below_al (below_al hBd _) _)) | (with_reducible exact mkS _ hB3) | (with_reducible exact mkS _ hB2) | (with_reducible exact mkS _ (below_al hB2 _)) | exact mkS _ (below_al hBd _) | exact mkS _ (below_al (below_al hBd _) _))
                      (first
                        | (refine step_append_lies _ (by rfl) _ _ _ (by rfl) w5.heap.size 47 im _ 2 16 Try.underlying44 him.out im0 im1 im2 rfl (by decide) (.slice (some ⟨w5.heap.size, 0, none⟩) 0 0) 0 [] ?_ ?_ a m ca (cellsOf ms) ?_ hln.out ?_ (cellsOf_one ms) hm1 (by unfold maxLen; omega) (by omega) ?_ _ rfl ?_
                           (focus rfl)
                           (focus (first | exact own_emptyQ _ _ (blkA _ _ rfl) (Nat.le_refl _) | exact own_emptyQ _ _ (blkUp (blkA _ _ rfl) _) (Nat.le_refl _) | exact own_emptyQ _ _ (blkA _ _ (al_size _ _)) (Nat.le_succ _)))
                           (focus (first | rfl | (go_simp; done)))
                           (focus (first | exact hfl.out _ (below_al hBd _) | exact hfl.out _ (below_al (below_al hBd _) _)))
                           (focus (first | exact (below_al hBd _).size | exact (below_al (below_al hBd _) _).size))
                           intro gg cap w6 hown hgrow hat hlg
                           have hB2 : Below w5.heap.size w5 w6 := by first | exact below_grown hgrow (below_al hBd _) (Nat.le_refl _) (own_le (Nat.le_refl _)) | exact below_grown hgrow (below_al (below_al hBd _) _) (Nat.le_refl _) (own_le (Nat.le_refl _)) | exact below_grown hgrow (below_al (below_al hBd _) _) (Nat.le_refl _) (own_le (Nat.le_succ _))
                           (first
                             | have kM : w6.heap[w5.heap.size + 1]? = some (.cells #[.int .i64 (t : Int), .int .i64 v] 47 (0, 0)) := grown_blk hgrow (blkA _ _ (al_size _ _)) (own_ne (Nat.ne_of_lt (Nat.lt_succ_self _)))
                             | have kM : w6.heap[w5.heap.size]? = some (.cells #[.int .i64 (t : Int), .int .i64 v] 47 (0, 0)) := grown_blk hgrow (blkUp (blkA _ _ rfl) _) (own_ne (Nat.ne_of_gt (Nat.lt_succ_self _)))
                             | skip)
                           rw [List.nil_append, Nat.zero_add] at hown
                           replace hown := Lib.hid hown
                           rw [Nat.zero_add]
                           clear hgrow hat hlg)
                        | (refine step_append_lies _ (by rfl) _ _ _ (by rfl) w5.heap.size 47 im _ 2 16 Try.underlying44 him.out im0 im1 im2 rfl (by decide) (.slice (some ⟨w5.heap.size + 1, 0, none⟩) 0 0) 0 [] ?_ ?_ a m ca (cellsOf ms) ?_ hln.out ?_ (cellsOf_one ms) hm1 (by unfold maxLen; omega) (by omega) ?_ _ rfl ?_
                           (focus rfl)
                           (focus (first | exact own_emptyQ _ _ (blkA _ _ rfl) (Nat.le_refl _) | exact own_emptyQ _ _ (blkUp (blkA _ _ rfl) _) (Nat.le_refl _) | exact own_emptyQ _ _ (blkA _ _ (al_size _ _)) (Nat.le_succ _)))
                           (focus (first | rfl | (go_simp; done)))
                           (focus (first | exact hfl.out _ (below_al hBd _) | exact hfl.out _ (below_al (below_al hBd _) _)))
                           (focus (first | exact (below_al hBd _).size | exact (below_al (below_al hBd _) _).size))
                           intro gg cap w6 hown hgrow hat hlg
                           have hB2 : Below w5.heap.size w5 w6 := by first | exact below_grown hgrow (below_al hBd _) (Nat.le_refl _) (own_le (Nat.le_refl _)) | exact below_grown hgrow (below_al (below_al hBd _) _) (Nat.le_refl _) (own_le (Nat.le_refl _)) | exact below_grown hgrow (below_al (below_al hBd _) _) (Nat.le_refl _) (own_le (Nat.le_succ _))
                           (first
                             | have kM : w6.heap[w5.heap.size + 1]? = some (.cells #[.int .i64 (t : Int), .int .i64 v] 47 (0, 0)) := grown_blk hgrow (blkA _ _ (al_size _ _)) (own_ne (Nat.ne_of_lt (Nat.lt_succ_self _)))
                             | have kM : w6.heap[w5.heap.size]? = some (.cells #[.int .i64 (t : Int), .int .i64 v] 47 (0, 0)) := grown_blk hgrow (blkUp (blkA _ _ rfl) _) (own_ne (Nat.ne_of_gt (Nat.lt_succ_self _)))
                             | skip)
                           rw [List.nil_append, Nat.zero_add] at hown
                           replace hown := Lib.hid hown
                           rw [Nat.zero_add]
                           clear hgrow hat hlg)
                        | (refine step_append_lies _ (by rfl) _ _ _ (by rfl) w5.heap.size 47 im _ 2 16 Try.underlying44 him.out im0 im1 im2 rfl (by decide) (.slice (some ⟨gg, 0, none⟩) m cap) m (cellsOf ms) ?_ ?_ ⟨w6.heap.size, 0, none⟩ 1 1 [.int .i64 (t : Int), .int .i64 v] ?_ rfl ?_ (by simp [Value.oneCell']) (by decide) (by unfold maxLen; omega) (by omega) ?_ _ rfl ?_
                           (focus rfl)
                           (focus (first | exact hown.out | exact World.ownsRow.alloc hown.out _))
                           (focus rfl)
                           (focus (first | exact World.news_of_block kM | exact World.news_of_block (blkA _ _ rfl)))
                           (focus (first | exact hB2.size | exact (below_al hB2 _).size))
                           intro gg2 cap2 w7 hown2 hgrow hat hlg
                           have hB3 : Below w5.heap.size w5 w7 := by first | exact below_grown hgrow hB2 (Nat.le_refl _) (own_le (hown.out.lt gg rfl).1) | exact below_grown hgrow (below_al hB2 _) (Nat.le_refl _) (own_le (hown.out.lt gg rfl).1)
                           replace hown := Lib.hid hown2
                           clear hown2 hgrow hat hlg)
                        | (refine step_append_lies _ (by rfl) _ _ _ (by rfl) w5.heap.size 47 im _ 2 16 Try.underlying44 him.out im0 im1 im2 rfl (by decide) (.slice (some ⟨gg, 0, none⟩) m cap) m (cellsOf ms) ?_ ?_ ⟨w5.heap.size, 0, none⟩ 1 1 [.int .i64 (t : Int), .int .i64 v] ?_ rfl ?_ (by simp [Value.oneCell']) (by decide) (by unfold maxLen; omega) (by omega) ?_ _ rfl ?_
                           (focus rfl)
                           (focus (first | exact hown.out | exact World.ownsRow.alloc hown.out _))
                           (focus rfl)
                           (focus (first | exact World.news_of_block kM | exact World.news_of_block (blkA _ _ rfl)))
                           (focus (first | exact hB2.size | exact (below_al hB2 _).size))
                           intro gg2 cap2 w7 hown2 hgrow hat hlg
                           have hB3 : Below w5.heap.size w5 w7 := by first | exact below_grown hgrow hB2 (Nat.le_refl _) (own_le (hown.out.lt gg rfl).1) | exact below_grown hgrow (below_al hB2 _) (Nat.le_refl _) (own_le (hown.out.lt gg rfl).1)
                           replace hown := Lib.hid hown2
                           clear hown2 hgrow hat hlg)
                        | (refine step_append_lies _ (by rfl) _ _ _ (by rfl) w5.heap.size 47 im _ 2 16 Try.underlying44 him.out im0 im1 im2 rfl (by decide) (.slice (some ⟨gg, 0, none⟩) m cap) m (cellsOf ms) ?_ ?_ ⟨w5.heap.size + 1, 0, none⟩ 1 1 [.int .i64 (t : Int), .int .i64 v] ?_ rfl ?_ (by simp [Value.oneCell']) (by decide) (by unfold maxLen; omega) (by omega) ?_ _ rfl ?_
                           (focus rfl)
                           (focus (first | exact hown.out | exact World.ownsRow.alloc hown.out _))
                           (focus rfl)
                           (focus (first | exact World.news_of_block kM | exact World.news_of_block (blkA _ _ rfl)))
                           (focus (first | exact hB2.size | exact (below_al hB2 _).size))
                           intro gg2 cap2 w7 hown2 hgrow hat hlg
                           have hB3 : Below w5.heap.size w5 w7 := by first | exact below_grown hgrow hB2 (Nat.le_refl _) (own_le (hown.out.lt gg rfl).1) | exact below_grown hgrow (below_al hB2 _) (Nat.le_refl _) (own_le (hown.out.lt gg rfl).1)
                           replace hown := Lib.hid hown2
                           clear hown2 hgrow hat hlg))
                    all_goals
                      go_wp2_with fail
                      go_meet
                      refine ⟨_, _, rfl, ?_, ?_⟩
                      · have u := hown.out
                        unfold ElemAt
                        rw [← cellsOf_push, List.length_append, hml.out]
                        skip
                        exact u
                      · exact hB3
              case rest =>
                as_aux_lemma =>
                  obtain ⟨g8, cap8, rfl, hA, hb⟩ := hcut
                  have hw51 := blk_lt k1
                  have hw52 := hb.size
                  replace k0 := blk_keep hb k0
                  replace k1 := blk_keep hb k1
                  replace k2 := blk_keep hb k2
                  replace hP := Lib.hid (prow_keep hP.out hb)
                  replace hE := Lib.hid (elem_keep hE.out hb)
                  replace hB := hB.trans (hb.mono hB.size)
                  clear hb him im0 im1 im2
                  have hg8 := (elem_ge hA).1
                  have hcap8 := elem_cap hA
                  rw [List.length_append, hml.out] at hcap8
                  have hcap9 : m1 ≤ cap8 ∧ cap8 ≤ 9223372036854775807 := by have := hm1.out; unfold maxLen at hcap8; simp only [List.length_cons, List.length_nil, Nat.zero_add] at hcap8; omega
                  have hm16 : m1 ≤ 17 := by have := hm1.out; omega
                  clear hcap8
                  replace hA := Lib.hid hA
                  go_upto_region 11 with fail
                  refine wp_world (fun W => W.heap[w.heap.size]? = some (.cells #[.int .i64 0, .int .i64 K, .int .i64 0, .int .i64 0, .int .i64 4, .slice none 0 0] 42 (0, 0)) ∧ W.heap[w2.heap.size]? = some (.cells #[.int .i64 0, .int .i64 h, .slice (some ⟨ge, 0, none⟩) 4 cape] 28 (0, 0)) ∧ W.heap[gm]? = some (.cells #[.int .i64 (t : Int), .int .i64 v] 47 (0, 0)) ∧ PRow W A ms ∧ ElemAt W w.heap.size 25 ge cape xs ∧ ElemAt W w5.heap.size 47 g8 cap8 (ms ++ [((t : Int), v)]) ∧ Below w.heap.size w W) ⟨k0, k1, k2, hP.out, hE.out, hA.out, hB⟩ ?_
                  clear k0 k1 k2 hP hE hA hB
                  rintro w6 ⟨k0, k1, k2, hP, hE, hA, hB⟩
                  replace hP := Lib.hid hP
                  replace hE := Lib.hid hE
                  replace hA := Lib.hid hA
                  obtain ⟨bt, hbt⟩ : ∃ bt, decide (K < (m1 : Int)) = bt := ⟨_, rfl⟩
                  go_upto_if 58 with fail
                  replace hbt := Lib.hid hbt
                  go_cut [8] from 59 to 60 (fun e wx => TailCut w6 w2.heap.size ms' e wx)
                  case first =>
                    as_aux_lemma =>
                      cases bt with
                      | false =>
                        have hgt : (m : Int) < K := by have := of_decide_eq_false hbt.out; have := hm1.out; omega
                        have e : ms' = ms ++ [((t : Int), v)] := by rw [hpush.out, if_pos (hmK.out.mpr hgt)]
                        replace e := Lib.hid e
                        clear hgt k0 k1 k2
                        go_wp2_with fail
                        go_meet
                        exact ⟨_, _, _, rfl, by rw [e.out, List.length_append, hml.out]; exact hm1.out, by rw [e.out]; exact prow_elem hA.out, fun a h => by cases h; show g8 ≠ w2.heap.size; omega, rfl⟩
                      | true =>
                        have hgt : ¬ (m : Int) < K := by have := of_decide_eq_true hbt.out; have := hm1.out; omega
                        have e : ms' = (ms ++ [((t : Int), v)]).tail := by rw [hpush.out, if_neg (fun h => hgt (hmK.out.mp h))]
                        have hm2 : 2 ≤ m1 := by have := hm1.out; omega
                        have hm3 : (1 : Int) ≤ (m1 : Int) := by omega
                        have hm4 : 1 < cap8 := by omega
                        have hm5 : (1 : Int) ≤ (cap8 : Int) := by omega
                        replace e := Lib.hid e
                        clear hgt k0 k1 k2
                        go_wp2_with fail
                        go_meet
                        exact ⟨_, _, _, rfl, by rw [e.out, List.length_tail, List.length_append, hml.out]; have := hm1.out; simp only [List.length_cons, List.length_nil, Nat.zero_add]; omega, by rw [e.out]; exact prow_tail hA.out, fun a h => by cases h; show g8 ≠ w2.heap.size; omega, rfl⟩
                  case rest =>
                    as_aux_lemma =>
                      obtain ⟨A', m', ca', rfl, hml', hP', hab', rfl⟩ := hcut
                      clear hbt hpush hmK hm1 hcap9 hm16 hA hg8
                      have hm17 : (m' : Int) ≤ 16 := by have := hN.out.2.1; have := hN.out.2.2.1; omega
                      replace hP' := Lib.hid hP'
                      replace hml' := Lib.hid hml'
                      replace hab' := Lib.hid hab'
                      have cconst := Lib.hid (fun W => by have u := const_any v W; rw [ofP_in v v hv1 hv2 (Int.le_refl _)] at u; exact u)
                      have csend := Lib.hid (fun W (hx : ElemAt W w.heap.size 25 ge cape xs) => send_any 0 K 0 0 0 h (t : Int) v v 0 h' none 0 0 ge cape w.heap.size 4 xs ys W hIl.out (by decide) (by decide) hx hhb (by omega) hsend.out)
                      go_upto_region 13 with fail
                      have mkS : ∀ W, Below w6.heap.size w6 W → W.cell? ⟨w.heap.size, 0, none⟩ = some (.int .i64 0) ∧ W.cell? ⟨w.heap.size, 1, none⟩ = some (.int .i64 K) ∧ W.cell? ⟨w.heap.size, 2, none⟩ = some (.int .i64 0) ∧ W.cell? ⟨w.heap.size, 3, none⟩ = some (.int .i64 0) ∧ W.cell? ⟨w.heap.size, 4, none⟩ = some (.int .i64 4) ∧ W.cell? ⟨w.heap.size, 5, none⟩ = some (.slice none 0 0) ∧ W.cell? ⟨w2.heap.size, 0, none⟩ = some (.int .i64 0) ∧ W.cell? ⟨w2.heap.size, 1, none⟩ = some (.int .i64 h) ∧ W.cell? ⟨w2.heap.size, 2, none⟩ = some (.slice (some ⟨ge, 0, none⟩) 4 cape) ∧ W.cell? ⟨gm, 0, none⟩ = some (.int .i64 (t : Int)) ∧ W.cell? ⟨gm, 1, none⟩ = some (.int .i64 v) := fun W h => ⟨row_of (blk_keep h k0) 0, row_of (blk_keep h k0) 1, row_of (blk_keep h k0) 2, row_of (blk_keep h k0) 3, row_of (blk_keep h k0) 4, row_of (blk_keep h k0) 5, row_of (blk_keep h k1) 0, row_of (blk_keep h k1) 1, row_of (blk_keep h k1) 2, row_of (blk_keep h k2) 0, row_of (blk_keep h k2) 1⟩
                      go_cut [12] from 61 to 68 (fun e wx => ElemCut w6 0 h' 4 ys e wx)
                      case first =>
                        as_aux_lemma =>
                          have hBn := Below.refl w6.heap.size w6
                          clear hB k0 k1 k2
                          go_region_held3 (fun W => W.cell? ⟨w.heap.size, 0, none⟩ = some (.int .i64 0) ∧ W.cell? ⟨w.heap.size, 1, none⟩ = some (.int .i64 K) ∧ W.cell? ⟨w.heap.size, 2, none⟩ = some (.int .i64 0) ∧ W.cell? ⟨w.heap.size, 3, none⟩ = some (.int .i64 0) ∧ W.cell? ⟨w.heap.size, 4, none⟩ = some (.int .i64 4) ∧ W.cell? ⟨w.heap.size, 5, none⟩ = some (.slice none 0 0) ∧ W.cell? ⟨w2.heap.size, 0, none⟩ = some (.int .i64 0) ∧ W.cell? ⟨w2.heap.size, 1, none⟩ = some (.int .i64 h) ∧ W.cell? ⟨w2.heap.size, 2, none⟩ = some (.slice (some ⟨ge, 0, none⟩) 4 cape) ∧ W.cell? ⟨gm, 0, none⟩ = some (.int .i64 (t : Int)) ∧ W.cell? ⟨gm, 1, none⟩ = some (.int .i64 v))
                            (first | (with_reducible exact mkS _ hBn) | (with_reducible exact mkS _ (below_al hBn _)) | (with_reducible exact mkS _ (below_put3 hBn zx)) | (with_reducible exact mkS _ (Below.drew hBn)) | (with_reducible exact mkS _ (Below.drew (below_al hBn _))))
                            (first
                              | (go_at_call 14; refine (cconst.out _).mono ?_; rintro e wn ⟨rfl, hbS⟩; (try (with_reducible replace hbS := below_undrew hbS)); (with_reducible first
                                  | (have kx := blkT1 hbS; have zx := hBn.size; replace hBn := below_tr (below_al hBn _) hbS)
                                  | (replace kx := blk_keep hbS kx; replace hBn := below_tr hBn hbS)
                                  | (replace hBn := below_tr hBn hbS)); (try (have rx := row_of kx; have fx := frozen_of kx; have lx := blk_lt kx)))
                              | (go_at_call 13; (first | refine (csend.out _ (elem_keep hE.out hBn)).mono ?_ | refine (csend.out _ (elem_keep hE.out (below_al hBn _))).mono ?_); rintro e wn ⟨g1, cap1, rfl, hE1, hbS⟩; (try (with_reducible replace hbS := below_undrew hbS)); have qg := (elem_ge hE1).1; (try simp only [World.size_alloc] at qg); (try have lx0 := blk_lt kx); replace hE1 := elem_base (b := w6.heap.size) hE1 (by first | exact hBn.size | exact Nat.le_succ_of_le hBn.size | (simp only [World.size_alloc]; have := hBn.size; omega)); (with_reducible first
                                  | (have kx := blkT1 hbS; have zx := hBn.size; replace hBn := below_tr (below_al hBn _) hbS)
                                  | (replace kx := blk_keep hbS kx; replace hBn := below_tr hBn hbS)
                                  | (replace hBn := below_tr hBn hbS)); (try (have rx := row_of kx; have fx := frozen_of kx; have lx := blk_lt kx))))
                          all_goals
                            go_wp2_with fail
                            go_meet
                            have q1 := elem_ge hE1
                            refine ⟨_, g1, cap1, rfl, ?_, ?_, ?_, ?_⟩
                            · first | exact zx | exact hBn.size
                            · first | exact blkA _ _ rfl | exact set3 kx
                            · first | exact hE1 | exact elem_up hE1 _ | exact elem_put3 hE1 (by omega)
                            · first | exact below_al hBn _ | exact below_put3 hBn zx
                      case rest =>
                        as_aux_lemma =>
                          obtain ⟨gf, g1, cap1, rfl, hgf, k3, hF, hb⟩ := hcut
                          have hw61 := blk_lt k1
                          have hw60 := blk_lt k0
                          have hgF := (elem_ge hF).1
                          replace k0 := blk_keep hb k0
                          replace k1 := blk_keep hb k1
                          replace hB := hB.trans (hb.mono hB.size)
                          clear mkS cconst csend k2
                          have hXr := prow_elem (elem_keep hE.out hb)
                          have hYr := prow_elem hF
                          replace hP := Lib.hid (prow_keep hP.out hb)
                          replace hP' := Lib.hid (prow_keep hP'.out hb)
                          clear hb hE
                          go_upto_region 14 with fail
                          refine wp_world (fun W => W.heap[w.heap.size]? = some (.cells #[.int .i64 0, .int .i64 K, .int .i64 0, .int .i64 0, .int .i64 4, .slice none 0 0] 42 (0, 0)) ∧ W.heap[w2.heap.size]? = some (.cells #[.int .i64 0, .int .i64 h, .slice (some ⟨ge, 0, none⟩) 4 cape] 28 (0, 0)) ∧ W.heap[gf]? = some (.cells #[.int .i64 0, .int .i64 h', .slice (some ⟨g1, 0, none⟩) 4 cap1] 28 (0, 0)) ∧ PRow W A ms ∧ PRow W A' ms' ∧ PRow W (some ⟨ge, 0, none⟩) xs ∧ PRow W (some ⟨g1, 0, none⟩) ys ∧ ElemAt W w6.heap.size 25 g1 cap1 ys ∧ Below w.heap.size w W) ⟨k0, k1, k3, hP.out, hP'.out, hXr, hYr, hF, hB⟩ ?_
                          clear k0 k1 k3 hP hP' hXr hYr hF hB
                          rintro w8 ⟨k0, k1, k3, hP, hP', hXr, hYr, hF, hB⟩
                          have ch1 := Lib.hid (fun W (hb : Below w8.heap.size w8 W) => by have u := has_row 0 h' (some ⟨g1, 0, none⟩) A 4 cap1 m ca ys ms W hyl.out hml.out (by decide) (by omega) (prow_keep hYr hb) (prow_keep hP hb); rw [has1.out] at u; exact u)
                          have ch2 := Lib.hid (fun W (hb : Below w8.heap.size w8 W) => by have u := has_row 0 h' (some ⟨g1, 0, none⟩) A' 4 cap1 m' ca' ys ms' W hyl.out hml'.out (by decide) (by omega) (prow_keep hYr hb) (prow_keep hP' hb); rw [has2.out] at u; exact u)
                          have ch3 := Lib.hid (fun W (hb : Below w8.heap.size w8 W) => by have u := has_row 0 h' (some ⟨g1, 0, none⟩) none 4 cap1 0 0 ys [] W hyl.out rfl (by decide) (by decide) (prow_keep hYr hb) (prow_nil _ _); rw [has3.out] at u; exact u)
                          have cwi := Lib.hid (fun W (hb : Below w8.heap.size w8 W) => by have u := within_row 0 h 0 h' (some ⟨ge, 0, none⟩) (some ⟨g1, 0, none⟩) 4 cape cap1 xs ys W hIl.out hyl.out (by decide) (prow_keep hXr hb) (prow_keep hYr hb); rw [hinp.out] at u; exact u)
                          clear hP hXr hYr
                          replace hP' := Lib.hid hP'
                          replace hF := Lib.hid hF
                          have hBn := Below.refl w8.heap.size w8
                          have r0 := row_of k0
                          have f0 := frozen_of k0
                          have z0 := blk_lt k0
                          have r1 := row_of k1
                          have f1 := frozen_of k1
                          have z1 := blk_lt k1
                          have r3 := row_of k3
                          have f3 := frozen_of k3
                          have z3 := blk_lt k3
                          go_wp2_with fail
                          refine (ch1.out _ hBn).mono ?_
                          rintro e wn ⟨rfl, hbS⟩
                          replace hBn := below_tr hBn hbS
                          replace k0 := blk_keep hbS k0
                          replace k1 := blk_keep hbS k1
                          replace k3 := blk_keep hbS k3
                          clear hbS r0 f0 z0 r1 f1 z1 r3 f3 z3
                          have r0 := row_of k0
                          have f0 := frozen_of k0
                          have z0 := blk_lt k0
                          have r1 := row_of k1
                          have f1 := frozen_of k1
                          have z1 := blk_lt k1
                          have r3 := row_of k3
                          have f3 := frozen_of k3
                          have z3 := blk_lt k3
                          go_wp2_with fail
                          refine (ch2.out _ hBn).mono ?_
                          rintro e wn ⟨rfl, hbS⟩
                          replace hBn := below_tr hBn hbS
                          replace k0 := blk_keep hbS k0
                          replace k1 := blk_keep hbS k1
                          replace k3 := blk_keep hbS k3
                          clear hbS r0 f0 z0 r1 f1 z1 r3 f3 z3
                          have r0 := row_of k0
                          have f0 := frozen_of k0
                          have z0 := blk_lt k0
                          have r1 := row_of k1
                          have f1 := frozen_of k1
                          have z1 := blk_lt k1
                          have r3 := row_of k3
                          have f3 := frozen_of k3
                          have z3 := blk_lt k3
                          go_wp2_with fail
                          refine (ch3.out _ hBn).mono ?_
                          rintro e wn ⟨rfl, hbS⟩
                          replace hBn := below_tr hBn hbS
                          replace k0 := blk_keep hbS k0
                          replace k1 := blk_keep hbS k1
                          replace k3 := blk_keep hbS k3
                          clear hbS r0 f0 z0 r1 f1 z1 r3 f3 z3
                          have r0 := row_of k0
                          have f0 := frozen_of k0
                          have z0 := blk_lt k0
                          have r1 := row_of k1
                          have f1 := frozen_of k1
                          have z1 := blk_lt k1
                          have r3 := row_of k3
                          have f3 := frozen_of k3
                          have z3 := blk_lt k3
                          go_wp2_with fail
                          refine (cwi.out _ hBn).mono ?_
                          rintro e wn ⟨rfl, hbS⟩
                          replace hBn := below_tr hBn hbS
                          replace k0 := blk_keep hbS k0
                          replace k1 := blk_keep hbS k1
                          replace k3 := blk_keep hbS k3
                          clear hbS r0 f0 z0 r1 f1 z1 r3 f3 z3
                          have r0 := row_of k0
                          have f0 := frozen_of k0
                          have z0 := blk_lt k0
                          have r1 := row_of k1
                          have f1 := frozen_of k1
                          have z1 := blk_lt k1
                          have r3 := row_of k3
                          have f3 := frozen_of k3
                          have z3 := blk_lt k3
                          go_upto_region 7 with fail
                          have hP2 := prow_keep hP'.out hBn
                          have hF2 := elem_keep hF.out hBn
                          have hB2 := below_tr hB hBn
                          refine wp_world (fun W => W.heap[w.heap.size]? = some (.cells #[.int .i64 0, .int .i64 K, .int .i64 0, .int .i64 0, .int .i64 4, .slice none 0 0] 42 (0, 0)) ∧ W.heap[w2.heap.size]? = some (.cells #[.int .i64 0, .int .i64 h', .slice (some ⟨g1, 0, none⟩) 4 cap1] 28 (0, 0)) ∧ PRow W A' ms' ∧ ElemAt W w.heap.size 25 g1 cap1 ys ∧ Below w.heap.size w W) ⟨blk_set (blk_set (blk_set k0 (by omega)) (by omega)) (by omega), set3 k1, prow_put hP2 hab'.out, elem_base (elem_put3 hF2 (by omega)) (by omega), below_put3 hB2 hw2⟩ ?_
                          clear k0 k1 k3 hP' hF hB hP2 hF2 hB2 hBn r0 f0 z0 r1 f1 z1 r3 f3 z3 ch1 ch2 ch3 cwi
                          rintro w9 ⟨k0, k1, hP, hE, hB⟩
                          clear has1 has2 has3 hinp hsend hIl hyl hab' hml hab hb0
                          go_wp2_with fail
                          exact ⟨⟨k + 1, m', h', ys, ms', g1, cap1, A', ca', by omega, by omega, by go_num, rfl, hN.out, hml'.out, hP, k0, k1, hE, hB⟩, by simp [intOf]; omega⟩
        · have hlt3 : ¬ ((k : Int) < (len : Int)) ∨ ((k : Int) < (len : Int) ∧ ¬ ((k : Int) < 20)) := by omega
          clear hI hP hE k0 k1 hlt
          rcases hlt3 with hlt2 | ⟨hlt2, hk02⟩
          · go_wp2_with fail
            refine (sends_any _).mono ?_
            rintro e w3 ⟨rfl, hb⟩
            go_wp2_with fail
            go_ret
            exact ⟨rfl, hB.trans (hb.mono hB.size)⟩
          · go_wp2_with fail
            refine (sends_any _).mono ?_
            rintro e w3 ⟨rfl, hb⟩
            go_wp2_with fail
            go_ret
            exact ⟨rfl, hB.trans (hb.mono hB.size)⟩
end Go.Proofs.Ytgepaajhccadhaa
