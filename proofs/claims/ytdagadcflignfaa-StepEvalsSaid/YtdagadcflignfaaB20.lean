/-
  What a tree's number is: the reference's Eval.
-/
import Derived.Test.YtdagadcflignfaaB19
namespace Go.Proofs.Ytdagadcflignfaa.Sx.Z
open Go.RowKit
def opT (k : Int) (r s : Int × Int) : Int × Int := if r.2 ≠ 0 then (0, r.2) else if s.2 ≠ 0 then (0, s.2) else if errP k r.1 s.1 = 0 then (valP k r.1 s.1, 0) else (0, errP k r.1 s.1)
def evT (g : Int → Int) : Xp → Int × Int
  | .mk k n v kids => match kids with
    | [] => if k = 1 then (n, 0) else (g v, 0)
    | [a] => opT 5 (0, 0) (evT g a)
    | [a, b] => opT k (evT g a) (evT g b)
    | _ => (0, 0)
theorem ev_0 (g : Int → Int) (k n v : Int) : evT g (.mk k n v []) = if k = 1 then (n, 0) else (g v, 0) := by rw [evT]
theorem ev_1 (g : Int → Int) (k n v : Int) (a : Xp) : evT g (.mk k n v [a]) = opT 5 (0, 0) (evT g a) := by rw [evT]
theorem ev_2 (g : Int → Int) (k n v : Int) (a b : Xp) : evT g (.mk k n v [a, b]) = opT k (evT g a) (evT g b) := by rw [evT]
theorem opT_in (k : Int) (r s : Int × Int) : (opT k r s).2 = 0 → -2147483648 ≤ (opT k r s).1 ∧ (opT k r s).1 ≤ 2147483647 := by
  unfold opT
  intro h
  split at h
  · dsimp only at h; omega
  · split at h
    · dsimp only at h; omega
    · split at h
      · rename_i h1 h2 h3
        rw [if_neg h1, if_neg h2, if_pos h3]
        have := errP_or k r.1 s.1
        dsimp only
        omega
      · dsimp only at h; omega
theorem opT_err (k : Int) (r s : Int × Int) (hr : r.2 = 0 ∨ r.2 = 2 ∨ r.2 = 3) (hs : s.2 = 0 ∨ s.2 = 2 ∨ s.2 = 3) : ((opT k r s).2 = 0 ∨ (opT k r s).2 = 2 ∨ (opT k r s).2 = 3) ∧ ((opT k r s).2 ≠ 0 → (opT k r s).1 = 0) := by
  have := errP_or k r.1 s.1
  unfold opT
  split
  · dsimp only; omega
  · split
    · dsimp only; omega
    · split <;> dsimp only <;> omega
/-- Numbers that a variable may be. -/
def InV (w : Int) (g : Int → Int) : Prop := ∀ v, 0 ≤ v → v < w → -2147483648 ≤ g v ∧ g v ≤ 2147483647
theorem ev_in {w : Int} {g : Int → Int} (hg : InV w g) {e : Xp} (h : Tm w e) : ((evT g e).2 = 0 ∨ (evT g e).2 = 2 ∨ (evT g e).2 = 3) ∧ ((evT g e).2 ≠ 0 → (evT g e).1 = 0) ∧ -2147483648 ≤ (evT g e).1 ∧ (evT g e).1 ≤ 2147483647 := by
  have fin : ∀ {p : Int × Int}, (p.2 = 0 ∨ p.2 = 2 ∨ p.2 = 3) ∧ (p.2 ≠ 0 → p.1 = 0) → (p.2 = 0 → -2147483648 ≤ p.1 ∧ p.1 ≤ 2147483647) → (p.2 = 0 ∨ p.2 = 2 ∨ p.2 = 3) ∧ (p.2 ≠ 0 → p.1 = 0) ∧ -2147483648 ≤ p.1 ∧ p.1 ≤ 2147483647 := fun {p} h1 h2 => by
    refine ⟨h1.1, h1.2, ?_⟩
    by_cases h : p.2 = 0
    · exact h2 h
    · rw [h1.2 h]; omega
  induction h with
  | num n h0 h1 => rw [ev_0, if_pos rfl]; dsimp only; omega
  | var v h0 h1 => rw [ev_0, if_neg (by decide)]; have := hg v h0 h1; dsimp only; omega
  | neg a _ ih => rw [ev_1]; exact fin (opT_err _ _ _ (.inl rfl) ih.1) (opT_in _ _ _)
  | bin k a b _ _ _ _ ia ib => rw [ev_2]; exact fin (opT_err _ _ _ ia.1 ib.1) (opT_in _ _ _)
/-- A tree that Tame tells, by its cells. -/
theorem tm_cells {w k n v : Int} {d : D} (h : Tm w (ex k n v d)) : (d.len = 0 ∧ ((k = 1 ∧ 0 ≤ n ∧ n ≤ 2147483647) ∨ (k = 2 ∧ 0 ≤ v ∧ v < w))) ∨ (d.len = 1 ∧ k = 3 ∧ Tm w (exE d 0)) ∨ (d.len = 2 ∧ 4 ≤ k ∧ k ≤ 8 ∧ Tm w (exE d 0) ∧ Tm w (exE d 1)) := by
  generalize he : ex k n v d = e at h
  cases h with
  | num m h0 h1 =>
    obtain ⟨rfl, rfl, rfl, hd⟩ := Xp.mk.inj he
    have : d.len = 0 := by rw [← exs_len, hd]; rfl
    exact .inl ⟨this, .inl ⟨rfl, h0, h1⟩⟩
  | var u h0 h1 =>
    obtain ⟨rfl, rfl, rfl, hd⟩ := Xp.mk.inj he
    have : d.len = 0 := by rw [← exs_len, hd]; rfl
    exact .inl ⟨this, .inr ⟨rfl, h0, h1⟩⟩
  | neg a ha =>
    obtain ⟨rfl, rfl, rfl, hd⟩ := Xp.mk.inj he
    have hl : d.len = 1 := by rw [← exs_len, hd]; rfl
    rw [exs_one hl] at hd
    obtain ⟨rfl, _⟩ := List.cons.inj hd
    exact .inr (.inl ⟨hl, rfl, ha⟩)
  | bin q a b h4 h8 ha hb =>
    obtain ⟨rfl, rfl, rfl, hd⟩ := Xp.mk.inj he
    have hl : d.len = 2 := by rw [← exs_len, hd]; rfl
    rw [exs_two hl] at hd
    obtain ⟨rfl, hd2⟩ := List.cons.inj hd
    obtain ⟨rfl, _⟩ := List.cons.inj hd2
    exact .inr (.inr ⟨hl, h4, h8, ha, hb⟩)
theorem ev_c1 (g : Int → Int) (k n v : Int) {d : D} (h : d.len = 1) : evT g (ex k n v d) = opT 5 (0, 0) (evT g (exE d 0)) := by
  show evT g (.mk k n v (exs d)) = _
  rw [exs_one h, ev_1]
theorem ev_c2 (g : Int → Int) (k n v : Int) {d : D} (h : d.len = 2) : evT g (ex k n v d) = opT k (evT g (exE d 0)) (evT g (exE d 1)) := by
  show evT g (.mk k n v (exs d)) = _
  rw [exs_two h, ev_2]
theorem ev_c0 (g : Int → Int) (k n v : Int) {d : D} (h : d.len = 0) : evT g (ex k n v d) = if k = 1 then (n, 0) else (g v, 0) := by
  have : exs d = [] := List.length_eq_zero_iff.1 (by rw [exs_len, h])
  show evT g (.mk k n v (exs d)) = _
  rw [this, ev_0]
theorem opT_l {k : Int} {r s : Int × Int} (h : r.2 ≠ 0) : opT k r s = (0, r.2) := if_pos h
theorem opT_r {k : Int} {r s : Int × Int} (h : r.2 = 0) (h2 : s.2 ≠ 0) : opT k r s = (0, s.2) := (if_neg (by omega)).trans (if_pos h2)
theorem opT_v {k : Int} {r s : Int × Int} (h : r.2 = 0) (h2 : s.2 = 0) : opT k r s = if errP k r.1 s.1 = 0 then (valP k r.1 s.1, 0) else (0, errP k r.1 s.1) := (if_neg (by omega)).trans (if_neg (by omega))
/-- One operation, with its error. -/
theorem opT_w {k a b x : Int} (hx : valP k a b = x) (h7 : k ≤ 6 ∨ b ≠ 0) : ((decide (x < -2147483648) || decide (x > 2147483647)) = true → (if errP k a b = 0 then (valP k a b, 0) else (0, errP k a b)) = ((0 : Int), (2 : Int))) ∧ ((decide (x < -2147483648) || decide (x > 2147483647)) = false → (if errP k a b = 0 then (valP k a b, 0) else (0, errP k a b)) = (x, 0)) := by
  have := errP_or k a b
  rw [hx] at this ⊢
  refine ⟨fun h => ?_, fun h => ?_⟩
  · have h : x < -2147483648 ∨ x > 2147483647 := by simpa using h
    have : errP k a b = 2 := by omega
    rw [if_neg (by omega), this]
  · have h : ¬ (x < -2147483648 ∨ x > 2147483647) := by simp at h; omega
    rw [if_pos (by omega)]
def vD (d : D) (v : Int) : Int := (d.el v.toNat 0).toI
noncomputable def revS : FSpec := fun ds _ => match ds with
  | [.i k, .i n, .i v, .d d, .d g] => some { val := .tup [.sc (.int .i64 (.sym (evT (vD g) (ex k n v d)).1)), .sc (.int .i64 (.sym (evT (vD g) (ex k n v d)).2))], vc := [Tm g.len (ex k n v d), InV g.len (vD g)] }
  | _ => none
noncomputable def revC : Con := con [rxpA, .sc (.rows 3)] revS
noncomputable def revM : List Dat → Nat := fun ds => match ds with
  | [.i k, .i n, .i v, .d d, .d g] => SizeOf.sizeOf d
  | _ => 0
noncomputable def revSu (m : Nat) : FSpec := fun ds _ => match ds with
  | [.i k, .i n, .i v, .d d, .d g] => some { val := .tup [.sc (.int .i64 (.sym (evT (vD g) (ex k n v d)).1)), .sc (.int .i64 (.sym (evT (vD g) (ex k n v d)).2))], vc := [SizeOf.sizeOf d < m, Tm g.len (ex k n v d), InV g.len (vD g)] }
  | _ => none
theorem rev_under (m : Nat) : revS.under revM m = revSu m := by
  funext ds fr
  unfold FSpec.under revS revM revSu
  split
  · rename_i e h
    split at h
    · obtain rfl := Option.some.inj h; rfl
    · cases h
  · rename_i h
    split at h
    · cases h
    · rfl
theorem rev_step (m : Nat) (ih : ConOK Try.prog 17 (con [rxpA, .sc (.rows 3)] (revSu m))) : ConOK Try.prog 17 (con [rxpA, .sc (.rows 3)] (revSu (m + 1))) := by
  refine fn_ob tt_ok mixed Try.func17 rfl (fun _ _ => by kernel_rfl) (A := fun ds => ⟨fun _ => Cons.of [(17, con [rxpA, .sc (.rows 3)] (revSu m))], fun k => match k, ds with | 3, [.i k, .i n, .i v, .d d, .d g] => some { ι := Nat, pre := fun _ i => i ≤ d.len ∧ i ≤ 2 ∧ ∀ j, j < i → (evT (vD g) (exE d j)).2 = 0, μ := fun i => 3 - i, st := fun s i => famR s [(7, .one (.sc (.int .i64 (.sym ((i : Nat))))))] [1, 2, 4, 5, 6] [(idOf s 6, .own 122 ([.ints .i64 (.lit 2) (fun j => if j < i then (evT (vD g) (exE d j)).1 else 0)]))] [2] } | _, _ => none, fun _ => none⟩) (fun _ _ => (cons_cons ih cons_nil)) (by kernel_rfl) ?_
  intro ds fr
  unfold revSu
  split
  · rename_i k n v d g
    refine kmp (q := SizeOf.sizeOf d < m + (1 : Nat) →
 Tm (↑g.len : Int) (ex k n v d) →
 InV (↑g.len : Int) (vD g) →
 (∃ (i : Nat),
 (i ≤ d.len ∧ i ≤ (2 : Nat) ∧ ∀ (j : Nat), j < i → (evT (vD g) (exE d j)).snd = (0 : Int)) ∧
 (0 : Int) = (↑i : Int) ∧
 g.rows = g.rows ∧
 (0 : Int) = (0 : Int) ∧
 (0 : Int) = (0 : Int) ∧
 (∀ (o : Nat), o < nat_lit 2 → (0 : Int) = if o < i then (evT (vD g) (exE d o)).fst else (0 : Int)) ∧
 k = k ∧ n = n ∧ v = v ∧ d.rows = d.rows) ∧
 ∀ (i : Nat),
 (i ≤ d.len ∧ i ≤ (2 : Nat) ∧ ∀ (j : Nat), j < i → (evT (vD g) (exE d j)).snd = (0 : Int)) →
 ((decide ((↑i : Int) < (↑d.len : Int)) && decide ((↑i : Int) < (2 : Int))) = true →
 ((0 : Int) ≤ (↑i : Int) ∧ (↑i : Int) < (↑d.len : Int)) ∧
 SizeOf.sizeOf (d.el (↑i : Int).toNat ((0 : Nat) + (1 : Nat) + (1 : Nat) + (1 : Nat))) < m ∧
 Tm (↑g.len : Int)
 (ex (d.el (↑i : Int).toNat (0 : Nat)).toI (d.el (↑i : Int).toNat ((0 : Nat) + (1 : Nat))).toI
 (d.el (↑i : Int).toNat ((0 : Nat) + (1 : Nat) + (1 : Nat))).toI
 (d.el (↑i : Int).toNat ((0 : Nat) + (1 : Nat) + (1 : Nat) + (1 : Nat)))) ∧
 InV (↑g.len : Int) (vD g) ∧
 (((evT (vD g)
 (ex (d.el (↑i : Int).toNat (0 : Nat)).toI (d.el (↑i : Int).toNat ((0 : Nat) + (1 : Nat))).toI
 (d.el (↑i : Int).toNat ((0 : Nat) + (1 : Nat) + (1 : Nat))).toI
 (d.el (↑i : Int).toNat ((0 : Nat) + (1 : Nat) + (1 : Nat) + (1 : Nat))))).snd !=
 (0 : Int)) =
 true →
 (0 : Int) = (evT (vD g) (ex k n v d)).fst ∧
 (evT (vD g)
 (ex (d.el (↑i : Int).toNat (0 : Nat)).toI (d.el (↑i : Int).toNat ((0 : Nat) + (1 : Nat))).toI
 (d.el (↑i : Int).toNat ((0 : Nat) + (1 : Nat) + (1 : Nat))).toI
 (d.el (↑i : Int).toNat ((0 : Nat) + (1 : Nat) + (1 : Nat) + (1 : Nat))))).snd =
 (evT (vD g) (ex k n v d)).snd) ∧
 (((evT (vD g)
 (ex (d.el (↑i : Int).toNat (0 : Nat)).toI (d.el (↑i : Int).toNat ((0 : Nat) + (1 : Nat))).toI
 (d.el (↑i : Int).toNat ((0 : Nat) + (1 : Nat) + (1 : Nat))).toI
 (d.el (↑i : Int).toNat ((0 : Nat) + (1 : Nat) + (1 : Nat) + (1 : Nat))))).snd !=
 (0 : Int)) =
 false →
 ((0 : Int) ≤ (↑i : Int) ∧ (↑i : Int) < (↑(2 : Nat) : Int)) ∧
 nat_lit 0 + (↑i : Int).toNat * (1 : Nat) + (1 : Nat) ≤ nat_lit 2 ∧
 ∃ (j : Nat),
 (j ≤ d.len ∧ j ≤ (2 : Nat) ∧ ∀ (j_1 : Nat), j_1 < j → (evT (vD g) (exE d j_1)).snd = (0 : Int)) ∧
 (3 : Nat) - j < (3 : Nat) - i ∧
 IntKind.i64.wrap ((↑i : Int) + (1 : Int)) = (↑j : Int) ∧
 g.rows = g.rows ∧
 (0 : Int) = (0 : Int) ∧
 (0 : Int) = (0 : Int) ∧
 (∀ (o : Nat),
 o < nat_lit 2 →
 (if
 ((nat_lit 0 + (↑i : Int).toNat * (1 : Nat)).ble o &&
 o.blt (nat_lit 0 + (↑i : Int).toNat * (1 : Nat) + (1 : Nat))) =
 true then
 (evT (vD g)
 (ex (d.el (↑i : Int).toNat (0 : Nat)).toI (d.el (↑i : Int).toNat ((0 : Nat) + (1 : Nat))).toI
 (d.el (↑i : Int).toNat ((0 : Nat) + (1 : Nat) + (1 : Nat))).toI
 (d.el (↑i : Int).toNat ((0 : Nat) + (1 : Nat) + (1 : Nat) + (1 : Nat))))).fst
 else if o < i then (evT (vD g) (exE d o)).fst else (0 : Int)) =
 if o < j then (evT (vD g) (exE d o)).fst else (0 : Int)) ∧
 k = k ∧ n = n ∧ v = v ∧ d.rows = d.rows)) ∧
 ((decide ((↑i : Int) < (↑d.len : Int)) && decide ((↑i : Int) < (2 : Int))) = false →
 ((k == (1 : Int)) = true →
 ((decide (n < (-2147483648 : Int)) || decide (n > (2147483647 : Int))) = true →
 (0 : Int) = (evT (vD g) (ex k n v d)).fst ∧ (2 : Int) = (evT (vD g) (ex k n v d)).snd) ∧
 ((decide (n < (-2147483648 : Int)) || decide (n > (2147483647 : Int))) = false →
 n = (evT (vD g) (ex k n v d)).fst ∧ (0 : Int) = (evT (vD g) (ex k n v d)).snd)) ∧
 ((k == (1 : Int)) = false →
 ((k == (2 : Int)) = true →
 ((decide (v ≥ (0 : Int)) && decide (v < (↑g.len : Int))) = true →
 ((0 : Int) ≤ v ∧ v < (↑g.len : Int)) ∧
 ((decide ((g.el v.toNat (0 : Nat)).toI < (-2147483648 : Int)) || decide ((g.el v.toNat (0 : Nat)).toI > (2147483647 : Int))) =
 true →
 (0 : Int) = (evT (vD g) (ex k n v d)).fst ∧ (2 : Int) = (evT (vD g) (ex k n v d)).snd) ∧
 ((decide ((g.el v.toNat (0 : Nat)).toI < (-2147483648 : Int)) || decide ((g.el v.toNat (0 : Nat)).toI > (2147483647 : Int))) =
 false →
 (g.el v.toNat (0 : Nat)).toI = (evT (vD g) (ex k n v d)).fst ∧ (0 : Int) = (evT (vD g) (ex k n v d)).snd)) ∧
 ((decide (v ≥ (0 : Int)) && decide (v < (↑g.len : Int))) = false →
 (0 : Int) = (evT (vD g) (ex k n v d)).fst ∧ (0 : Int) = (evT (vD g) (ex k n v d)).snd)) ∧
 ((k == (2 : Int)) = false →
 ((k == (3 : Int)) = true →
 ((decide
 (IntKind.i64.wrap
 ((0 : Int) -
 if nat_lit 0 + nat_lit 0 * (1 : Nat) < i then (evT (vD g) (exE d (nat_lit 0 + nat_lit 0 * (1 : Nat)))).fst
 else (0 : Int)) <
 (-2147483648 : Int)) ||
 decide
 (IntKind.i64.wrap
 ((0 : Int) -
 if nat_lit 0 + nat_lit 0 * (1 : Nat) < i then (evT (vD g) (exE d (nat_lit 0 + nat_lit 0 * (1 : Nat)))).fst
 else (0 : Int)) >
 (2147483647 : Int))) =
 true →
 (0 : Int) = (evT (vD g) (ex k n v d)).fst ∧ (2 : Int) = (evT (vD g) (ex k n v d)).snd) ∧
 ((decide
 (IntKind.i64.wrap
 ((0 : Int) -
 if nat_lit 0 + nat_lit 0 * (1 : Nat) < i then (evT (vD g) (exE d (nat_lit 0 + nat_lit 0 * (1 : Nat)))).fst
 else (0 : Int)) <
 (-2147483648 : Int)) ||
 decide
 (IntKind.i64.wrap
 ((0 : Int) -
 if nat_lit 0 + nat_lit 0 * (1 : Nat) < i then (evT (vD g) (exE d (nat_lit 0 + nat_lit 0 * (1 : Nat)))).fst
 else (0 : Int)) >
 (2147483647 : Int))) =
 false →
 IntKind.i64.wrap
 ((0 : Int) -
 if nat_lit 0 + nat_lit 0 * (1 : Nat) < i then (evT (vD g) (exE d (nat_lit 0 + nat_lit 0 * (1 : Nat)))).fst
 else (0 : Int)) =
 (evT (vD g) (ex k n v d)).fst ∧
 (0 : Int) = (evT (vD g) (ex k n v d)).snd)) ∧
 ((k == (3 : Int)) = false →
 ((k == (4 : Int)) = true →
 ((decide
 (IntKind.i64.wrap
 ((if nat_lit 0 + nat_lit 0 * (1 : Nat) < i then (evT (vD g) (exE d (nat_lit 0 + nat_lit 0 * (1 : Nat)))).fst
 else (0 : Int)) +
 if nat_lit 0 + nat_lit 1 * (1 : Nat) < i then (evT (vD g) (exE d (nat_lit 0 + nat_lit 1 * (1 : Nat)))).fst
 else (0 : Int)) <
 (-2147483648 : Int)) ||
 decide
 (IntKind.i64.wrap
 ((if nat_lit 0 + nat_lit 0 * (1 : Nat) < i then (evT (vD g) (exE d (nat_lit 0 + nat_lit 0 * (1 : Nat)))).fst
 else (0 : Int)) +
 if nat_lit 0 + nat_lit 1 * (1 : Nat) < i then (evT (vD g) (exE d (nat_lit 0 + nat_lit 1 * (1 : Nat)))).fst
 else (0 : Int)) >
 (2147483647 : Int))) =
 true →
 (0 : Int) = (evT (vD g) (ex k n v d)).fst ∧ (2 : Int) = (evT (vD g) (ex k n v d)).snd) ∧
 ((decide
 (IntKind.i64.wrap
 ((if nat_lit 0 + nat_lit 0 * (1 : Nat) < i then (evT (vD g) (exE d (nat_lit 0 + nat_lit 0 * (1 : Nat)))).fst
 else (0 : Int)) +
 if nat_lit 0 + nat_lit 1 * (1 : Nat) < i then (evT (vD g) (exE d (nat_lit 0 + nat_lit 1 * (1 : Nat)))).fst
 else (0 : Int)) <
 (-2147483648 : Int)) ||
 decide
 (IntKind.i64.wrap
 ((if nat_lit 0 + nat_lit 0 * (1 : Nat) < i then (evT (vD g) (exE d (nat_lit 0 + nat_lit 0 * (1 : Nat)))).fst
 else (0 : Int)) +
 if nat_lit 0 + nat_lit 1 * (1 : Nat) < i then (evT (vD g) (exE d (nat_lit 0 + nat_lit 1 * (1 : Nat)))).fst
 else (0 : Int)) >
 (2147483647 : Int))) =
 false →
 IntKind.i64.wrap
 ((if nat_lit 0 + nat_lit 0 * (1 : Nat) < i then (evT (vD g) (exE d (nat_lit 0 + nat_lit 0 * (1 : Nat)))).fst
 else (0 : Int)) +
 if nat_lit 0 + nat_lit 1 * (1 : Nat) < i then (evT (vD g) (exE d (nat_lit 0 + nat_lit 1 * (1 : Nat)))).fst
 else (0 : Int)) =
 (evT (vD g) (ex k n v d)).fst ∧
 (0 : Int) = (evT (vD g) (ex k n v d)).snd)) ∧
 ((k == (4 : Int)) = false →
 ((k == (5 : Int)) = true →
 ((decide
 (IntKind.i64.wrap
 ((if nat_lit 0 + nat_lit 0 * (1 : Nat) < i then (evT (vD g) (exE d (nat_lit 0 + nat_lit 0 * (1 : Nat)))).fst
 else (0 : Int)) -
 if nat_lit 0 + nat_lit 1 * (1 : Nat) < i then (evT (vD g) (exE d (nat_lit 0 + nat_lit 1 * (1 : Nat)))).fst
 else (0 : Int)) <
 (-2147483648 : Int)) ||
 decide
 (IntKind.i64.wrap
 ((if nat_lit 0 + nat_lit 0 * (1 : Nat) < i then (evT (vD g) (exE d (nat_lit 0 + nat_lit 0 * (1 : Nat)))).fst
 else (0 : Int)) -
 if nat_lit 0 + nat_lit 1 * (1 : Nat) < i then (evT (vD g) (exE d (nat_lit 0 + nat_lit 1 * (1 : Nat)))).fst
 else (0 : Int)) >
 (2147483647 : Int))) =
 true →
 (0 : Int) = (evT (vD g) (ex k n v d)).fst ∧ (2 : Int) = (evT (vD g) (ex k n v d)).snd) ∧
 ((decide
 (IntKind.i64.wrap
 ((if nat_lit 0 + nat_lit 0 * (1 : Nat) < i then (evT (vD g) (exE d (nat_lit 0 + nat_lit 0 * (1 : Nat)))).fst
 else (0 : Int)) -
 if nat_lit 0 + nat_lit 1 * (1 : Nat) < i then (evT (vD g) (exE d (nat_lit 0 + nat_lit 1 * (1 : Nat)))).fst
 else (0 : Int)) <
 (-2147483648 : Int)) ||
 decide
 (IntKind.i64.wrap
 ((if nat_lit 0 + nat_lit 0 * (1 : Nat) < i then (evT (vD g) (exE d (nat_lit 0 + nat_lit 0 * (1 : Nat)))).fst
 else (0 : Int)) -
 if nat_lit 0 + nat_lit 1 * (1 : Nat) < i then (evT (vD g) (exE d (nat_lit 0 + nat_lit 1 * (1 : Nat)))).fst
 else (0 : Int)) >
 (2147483647 : Int))) =
 false →
 IntKind.i64.wrap
 ((if nat_lit 0 + nat_lit 0 * (1 : Nat) < i then (evT (vD g) (exE d (nat_lit 0 + nat_lit 0 * (1 : Nat)))).fst
 else (0 : Int)) -
 if nat_lit 0 + nat_lit 1 * (1 : Nat) < i then (evT (vD g) (exE d (nat_lit 0 + nat_lit 1 * (1 : Nat)))).fst
 else (0 : Int)) =
 (evT (vD g) (ex k n v d)).fst ∧
 (0 : Int) = (evT (vD g) (ex k n v d)).snd)) ∧
 ((k == (5 : Int)) = false →
 ((k == (6 : Int)) = true →
 ((decide
 (IntKind.i64.wrap
 ((if nat_lit 0 + nat_lit 0 * (1 : Nat) < i then
 (evT (vD g) (exE d (nat_lit 0 + nat_lit 0 * (1 : Nat)))).fst
 else (0 : Int)) *
 if nat_lit 0 + nat_lit 1 * (1 : Nat) < i then
 (evT (vD g) (exE d (nat_lit 0 + nat_lit 1 * (1 : Nat)))).fst
 else (0 : Int)) <
 (-2147483648 : Int)) ||
 decide
 (IntKind.i64.wrap
 ((if nat_lit 0 + nat_lit 0 * (1 : Nat) < i then
 (evT (vD g) (exE d (nat_lit 0 + nat_lit 0 * (1 : Nat)))).fst
 else (0 : Int)) *
 if nat_lit 0 + nat_lit 1 * (1 : Nat) < i then
 (evT (vD g) (exE d (nat_lit 0 + nat_lit 1 * (1 : Nat)))).fst
 else (0 : Int)) >
 (2147483647 : Int))) =
 true →
 (0 : Int) = (evT (vD g) (ex k n v d)).fst ∧ (2 : Int) = (evT (vD g) (ex k n v d)).snd) ∧
 ((decide
 (IntKind.i64.wrap
 ((if nat_lit 0 + nat_lit 0 * (1 : Nat) < i then
 (evT (vD g) (exE d (nat_lit 0 + nat_lit 0 * (1 : Nat)))).fst
 else (0 : Int)) *
 if nat_lit 0 + nat_lit 1 * (1 : Nat) < i then
 (evT (vD g) (exE d (nat_lit 0 + nat_lit 1 * (1 : Nat)))).fst
 else (0 : Int)) <
 (-2147483648 : Int)) ||
 decide
 (IntKind.i64.wrap
 ((if nat_lit 0 + nat_lit 0 * (1 : Nat) < i then
 (evT (vD g) (exE d (nat_lit 0 + nat_lit 0 * (1 : Nat)))).fst
 else (0 : Int)) *
 if nat_lit 0 + nat_lit 1 * (1 : Nat) < i then
 (evT (vD g) (exE d (nat_lit 0 + nat_lit 1 * (1 : Nat)))).fst
 else (0 : Int)) >
 (2147483647 : Int))) =
 false →
 IntKind.i64.wrap
 ((if nat_lit 0 + nat_lit 0 * (1 : Nat) < i then (evT (vD g) (exE d (nat_lit 0 + nat_lit 0 * (1 : Nat)))).fst
 else (0 : Int)) *
 if nat_lit 0 + nat_lit 1 * (1 : Nat) < i then (evT (vD g) (exE d (nat_lit 0 + nat_lit 1 * (1 : Nat)))).fst
 else (0 : Int)) =
 (evT (vD g) (ex k n v d)).fst ∧
 (0 : Int) = (evT (vD g) (ex k n v d)).snd)) ∧
 ((k == (6 : Int)) = false →
 ((k == (7 : Int)) = true →
 ((k == (7 : Int)) = true →
 (((if nat_lit 0 + nat_lit 1 * (1 : Nat) < i then (evT (vD g) (exE d (nat_lit 0 + nat_lit 1 * (1 : Nat)))).fst
 else (0 : Int)) ==
 (0 : Int)) =
 true →
 (0 : Int) = (evT (vD g) (ex k n v d)).fst ∧ (3 : Int) = (evT (vD g) (ex k n v d)).snd) ∧
 (((if nat_lit 0 + nat_lit 1 * (1 : Nat) < i then (evT (vD g) (exE d (nat_lit 0 + nat_lit 1 * (1 : Nat)))).fst
 else (0 : Int)) ==
 (0 : Int)) =
 false →
 ((k == (7 : Int)) = true →
 (if nat_lit 0 + nat_lit 1 * (1 : Nat) < i then
 (evT (vD g) (exE d (nat_lit 0 + nat_lit 1 * (1 : Nat)))).fst
 else (0 : Int)) ≠
 (0 : Int) ∧
 ((decide
 (IntKind.i64.wrap
 ((if nat_lit 0 + nat_lit 0 * (1 : Nat) < i then
 (evT (vD g) (exE d (nat_lit 0 + nat_lit 0 * (1 : Nat)))).fst
 else (0 : Int)).tdiv
 (if nat_lit 0 + nat_lit 1 * (1 : Nat) < i then
 (evT (vD g) (exE d (nat_lit 0 + nat_lit 1 * (1 : Nat)))).fst
 else (0 : Int))) <
 (-2147483648 : Int)) ||
 decide
 (IntKind.i64.wrap
 ((if nat_lit 0 + nat_lit 0 * (1 : Nat) < i then
 (evT (vD g) (exE d (nat_lit 0 + nat_lit 0 * (1 : Nat)))).fst
 else (0 : Int)).tdiv
 (if nat_lit 0 + nat_lit 1 * (1 : Nat) < i then
 (evT (vD g) (exE d (nat_lit 0 + nat_lit 1 * (1 : Nat)))).fst
 else (0 : Int))) >
 (2147483647 : Int))) =
 true →
 (0 : Int) = (evT (vD g) (ex k n v d)).fst ∧ (2 : Int) = (evT (vD g) (ex k n v d)).snd) ∧
 ((decide
 (IntKind.i64.wrap
 ((if nat_lit 0 + nat_lit 0 * (1 : Nat) < i then
 (evT (vD g) (exE d (nat_lit 0 + nat_lit 0 * (1 : Nat)))).fst
 else (0 : Int)).tdiv
 (if nat_lit 0 + nat_lit 1 * (1 : Nat) < i then
 (evT (vD g) (exE d (nat_lit 0 + nat_lit 1 * (1 : Nat)))).fst
 else (0 : Int))) <
 (-2147483648 : Int)) ||
 decide
 (IntKind.i64.wrap
 ((if nat_lit 0 + nat_lit 0 * (1 : Nat) < i then
 (evT (vD g) (exE d (nat_lit 0 + nat_lit 0 * (1 : Nat)))).fst
 else (0 : Int)).tdiv
 (if nat_lit 0 + nat_lit 1 * (1 : Nat) < i then
 (evT (vD g) (exE d (nat_lit 0 + nat_lit 1 * (1 : Nat)))).fst
 else (0 : Int))) >
 (2147483647 : Int))) =
 false →
 IntKind.i64.wrap
 ((if nat_lit 0 + nat_lit 0 * (1 : Nat) < i then
 (evT (vD g) (exE d (nat_lit 0 + nat_lit 0 * (1 : Nat)))).fst
 else (0 : Int)).tdiv
 (if nat_lit 0 + nat_lit 1 * (1 : Nat) < i then
 (evT (vD g) (exE d (nat_lit 0 + nat_lit 1 * (1 : Nat)))).fst
 else (0 : Int))) =
 (evT (vD g) (ex k n v d)).fst ∧
 (0 : Int) = (evT (vD g) (ex k n v d)).snd)) ∧
 ((k == (7 : Int)) = false →
 (if nat_lit 0 + nat_lit 1 * (1 : Nat) < i then
 (evT (vD g) (exE d (nat_lit 0 + nat_lit 1 * (1 : Nat)))).fst
 else (0 : Int)) ≠
 (0 : Int) ∧
 ((decide
 ((if nat_lit 0 + nat_lit 0 * (1 : Nat) < i then
 (evT (vD g) (exE d (nat_lit 0 + nat_lit 0 * (1 : Nat)))).fst
 else (0 : Int)).tmod
 (if nat_lit 0 + nat_lit 1 * (1 : Nat) < i then
 (evT (vD g) (exE d (nat_lit 0 + nat_lit 1 * (1 : Nat)))).fst
 else (0 : Int)) <
 (-2147483648 : Int)) ||
 decide
 ((if nat_lit 0 + nat_lit 0 * (1 : Nat) < i then
 (evT (vD g) (exE d (nat_lit 0 + nat_lit 0 * (1 : Nat)))).fst
 else (0 : Int)).tmod
 (if nat_lit 0 + nat_lit 1 * (1 : Nat) < i then
 (evT (vD g) (exE d (nat_lit 0 + nat_lit 1 * (1 : Nat)))).fst
 else (0 : Int)) >
 (2147483647 : Int))) =
 true →
 (0 : Int) = (evT (vD g) (ex k n v d)).fst ∧ (2 : Int) = (evT (vD g) (ex k n v d)).snd) ∧
 ((decide
 ((if nat_lit 0 + nat_lit 0 * (1 : Nat) < i then
 (evT (vD g) (exE d (nat_lit 0 + nat_lit 0 * (1 : Nat)))).fst
 else (0 : Int)).tmod
 (if nat_lit 0 + nat_lit 1 * (1 : Nat) < i then
 (evT (vD g) (exE d (nat_lit 0 + nat_lit 1 * (1 : Nat)))).fst
 else (0 : Int)) <
 (-2147483648 : Int)) ||
 decide
 ((if nat_lit 0 + nat_lit 0 * (1 : Nat) < i then
 (evT (vD g) (exE d (nat_lit 0 + nat_lit 0 * (1 : Nat)))).fst
 else (0 : Int)).tmod
 (if nat_lit 0 + nat_lit 1 * (1 : Nat) < i then
 (evT (vD g) (exE d (nat_lit 0 + nat_lit 1 * (1 : Nat)))).fst
 else (0 : Int)) >
 (2147483647 : Int))) =
 false →
 (if nat_lit 0 + nat_lit 0 * (1 : Nat) < i then
 (evT (vD g) (exE d (nat_lit 0 + nat_lit 0 * (1 : Nat)))).fst
 else (0 : Int)).tmod
 (if nat_lit 0 + nat_lit 1 * (1 : Nat) < i then
 (evT (vD g) (exE d (nat_lit 0 + nat_lit 1 * (1 : Nat)))).fst
 else (0 : Int)) =
 (evT (vD g) (ex k n v d)).fst ∧
 (0 : Int) = (evT (vD g) (ex k n v d)).snd)))) ∧
 ((k == (7 : Int)) = false →
 (0 : Int) = (evT (vD g) (ex k n v d)).fst ∧ (0 : Int) = (evT (vD g) (ex k n v d)).snd)) ∧
 ((k == (7 : Int)) = false →
 ((k == (8 : Int)) = true →
 (((if nat_lit 0 + nat_lit 1 * (1 : Nat) < i then (evT (vD g) (exE d (nat_lit 0 + nat_lit 1 * (1 : Nat)))).fst
 else (0 : Int)) ==
 (0 : Int)) =
 true →
 (0 : Int) = (evT (vD g) (ex k n v d)).fst ∧ (3 : Int) = (evT (vD g) (ex k n v d)).snd) ∧
 (((if nat_lit 0 + nat_lit 1 * (1 : Nat) < i then (evT (vD g) (exE d (nat_lit 0 + nat_lit 1 * (1 : Nat)))).fst
 else (0 : Int)) ==
 (0 : Int)) =
 false →
 ((k == (7 : Int)) = true →
 (if nat_lit 0 + nat_lit 1 * (1 : Nat) < i then
 (evT (vD g) (exE d (nat_lit 0 + nat_lit 1 * (1 : Nat)))).fst
 else (0 : Int)) ≠
 (0 : Int) ∧
 ((decide
 (IntKind.i64.wrap
 ((if nat_lit 0 + nat_lit 0 * (1 : Nat) < i then
 (evT (vD g) (exE d (nat_lit 0 + nat_lit 0 * (1 : Nat)))).fst
 else (0 : Int)).tdiv
 (if nat_lit 0 + nat_lit 1 * (1 : Nat) < i then
 (evT (vD g) (exE d (nat_lit 0 + nat_lit 1 * (1 : Nat)))).fst
 else (0 : Int))) <
 (-2147483648 : Int)) ||
 decide
 (IntKind.i64.wrap
 ((if nat_lit 0 + nat_lit 0 * (1 : Nat) < i then
 (evT (vD g) (exE d (nat_lit 0 + nat_lit 0 * (1 : Nat)))).fst
 else (0 : Int)).tdiv
 (if nat_lit 0 + nat_lit 1 * (1 : Nat) < i then
 (evT (vD g) (exE d (nat_lit 0 + nat_lit 1 * (1 : Nat)))).fst
 else (0 : Int))) >
 (2147483647 : Int))) =
 true →
 (0 : Int) = (evT (vD g) (ex k n v d)).fst ∧ (2 : Int) = (evT (vD g) (ex k n v d)).snd) ∧
 ((decide
 (IntKind.i64.wrap
 ((if nat_lit 0 + nat_lit 0 * (1 : Nat) < i then
 (evT (vD g) (exE d (nat_lit 0 + nat_lit 0 * (1 : Nat)))).fst
 else (0 : Int)).tdiv
 (if nat_lit 0 + nat_lit 1 * (1 : Nat) < i then
 (evT (vD g) (exE d (nat_lit 0 + nat_lit 1 * (1 : Nat)))).fst
 else (0 : Int))) <
 (-2147483648 : Int)) ||
 decide
 (IntKind.i64.wrap
 ((if nat_lit 0 + nat_lit 0 * (1 : Nat) < i then
 (evT (vD g) (exE d (nat_lit 0 + nat_lit 0 * (1 : Nat)))).fst
 else (0 : Int)).tdiv
 (if nat_lit 0 + nat_lit 1 * (1 : Nat) < i then
 (evT (vD g) (exE d (nat_lit 0 + nat_lit 1 * (1 : Nat)))).fst
 else (0 : Int))) >
 (2147483647 : Int))) =
 false →
 IntKind.i64.wrap
 ((if nat_lit 0 + nat_lit 0 * (1 : Nat) < i then
 (evT (vD g) (exE d (nat_lit 0 + nat_lit 0 * (1 : Nat)))).fst
 else (0 : Int)).tdiv
 (if nat_lit 0 + nat_lit 1 * (1 : Nat) < i then
 (evT (vD g) (exE d (nat_lit 0 + nat_lit 1 * (1 : Nat)))).fst
 else (0 : Int))) =
 (evT (vD g) (ex k n v d)).fst ∧
 (0 : Int) = (evT (vD g) (ex k n v d)).snd)) ∧
 ((k == (7 : Int)) = false →
 (if nat_lit 0 + nat_lit 1 * (1 : Nat) < i then
 (evT (vD g) (exE d (nat_lit 0 + nat_lit 1 * (1 : Nat)))).fst
 else (0 : Int)) ≠
 (0 : Int) ∧
 ((decide
 ((if nat_lit 0 + nat_lit 0 * (1 : Nat) < i then
 (evT (vD g) (exE d (nat_lit 0 + nat_lit 0 * (1 : Nat)))).fst
 else (0 : Int)).tmod
 (if nat_lit 0 + nat_lit 1 * (1 : Nat) < i then
 (evT (vD g) (exE d (nat_lit 0 + nat_lit 1 * (1 : Nat)))).fst
 else (0 : Int)) <
 (-2147483648 : Int)) ||
 decide
 ((if nat_lit 0 + nat_lit 0 * (1 : Nat) < i then
 (evT (vD g) (exE d (nat_lit 0 + nat_lit 0 * (1 : Nat)))).fst
 else (0 : Int)).tmod
 (if nat_lit 0 + nat_lit 1 * (1 : Nat) < i then
 (evT (vD g) (exE d (nat_lit 0 + nat_lit 1 * (1 : Nat)))).fst
 else (0 : Int)) >
 (2147483647 : Int))) =
 true →
 (0 : Int) = (evT (vD g) (ex k n v d)).fst ∧ (2 : Int) = (evT (vD g) (ex k n v d)).snd) ∧
 ((decide
 ((if nat_lit 0 + nat_lit 0 * (1 : Nat) < i then
 (evT (vD g) (exE d (nat_lit 0 + nat_lit 0 * (1 : Nat)))).fst
 else (0 : Int)).tmod
 (if nat_lit 0 + nat_lit 1 * (1 : Nat) < i then
 (evT (vD g) (exE d (nat_lit 0 + nat_lit 1 * (1 : Nat)))).fst
 else (0 : Int)) <
 (-2147483648 : Int)) ||
 decide
 ((if nat_lit 0 + nat_lit 0 * (1 : Nat) < i then
 (evT (vD g) (exE d (nat_lit 0 + nat_lit 0 * (1 : Nat)))).fst
 else (0 : Int)).tmod
 (if nat_lit 0 + nat_lit 1 * (1 : Nat) < i then
 (evT (vD g) (exE d (nat_lit 0 + nat_lit 1 * (1 : Nat)))).fst
 else (0 : Int)) >
 (2147483647 : Int))) =
 false →
 (if nat_lit 0 + nat_lit 0 * (1 : Nat) < i then
 (evT (vD g) (exE d (nat_lit 0 + nat_lit 0 * (1 : Nat)))).fst
 else (0 : Int)).tmod
 (if nat_lit 0 + nat_lit 1 * (1 : Nat) < i then
 (evT (vD g) (exE d (nat_lit 0 + nat_lit 1 * (1 : Nat)))).fst
 else (0 : Int)) =
 (evT (vD g) (ex k n v d)).fst ∧
 (0 : Int) = (evT (vD g) (ex k n v d)).snd)))) ∧
 ((k == (8 : Int)) = false →
 (0 : Int) = (evT (vD g) (ex k n v d)).fst ∧ (0 : Int) = (evT (vD g) (ex k n v d)).snd)))))))))) (by kernel_rfl) ?_
    intro hm hT hg
    have e0 : ∀ i, ex (d.el i 0).toI (d.el i (0 + 1)).toI (d.el i (0 + 1 + 1)).toI (d.el i (0 + 1 + 1 + 1)) = exE d i := fun i => rfl
    simp only [e0]
    have hc := tm_cells hT
    have hd2 : d.len ≤ 2 := by omega
    refine ⟨⟨0, ⟨Nat.zero_le _, by omega, fun j hj => absurd hj (Nat.not_lt_zero j)⟩, rfl, trivial, trivial, trivial, fun o ho => rfl, trivial, trivial, trivial, trivial⟩, fun i hi => ⟨fun h => ?_, fun h => ?_⟩⟩
    · obtain ⟨i1, i2, i3⟩ := hi
      have h' : i < d.len ∧ i < 2 := by simp at h; omega
      have hk : Tm g.len (exE d i) := by
        rcases hc with hc | ⟨l, _, ha⟩ | ⟨l, _, _, ha, hb⟩
        · omega
        · have : i = 0 := by omega
          subst this; exact ha
        · have : i = 0 ∨ i = 1 := by omega
          rcases this with rfl | rfl
          · exact ha
          · exact hb
      have hz := el_lt (j := 0 + 1 + 1 + 1) h'.1
      simp only [Int.toNat_natCast]
      refine ⟨by omega, by omega, hk, hg, fun hb => ?_, fun hb => ⟨by omega, by omega, i + 1, ⟨by omega, by omega, fun j hj => ?_⟩, by omega, wr _ (by omega), trivial, trivial, trivial, fun o ho => ?_, trivial, trivial, trivial, trivial⟩⟩
      · have hb : (evT (vD g) (exE d i)).2 ≠ 0 := by simpa using hb
        have e : evT (vD g) (ex k n v d) = (0, (evT (vD g) (exE d i)).2) := by
          rcases hc with hc | ⟨l, _, ha⟩ | ⟨l, _, _, _, _⟩
          · omega
          · have : i = 0 := by omega
            subst this
            rw [ev_c1 _ _ _ _ l, opT_r rfl hb]
          · have : i = 0 ∨ i = 1 := by omega
            rcases this with rfl | rfl
            · rw [ev_c2 _ _ _ _ l, opT_l hb]
            · rw [ev_c2 _ _ _ _ l, opT_r (i3 0 (by omega)) hb]
        rw [e]; exact ⟨rfl, rfl⟩
      · have hb : (evT (vD g) (exE d i)).2 = 0 := by simpa using hb
        by_cases hji : j < i
        · exact i3 j hji
        · rw [show j = i by omega]; exact hb
      · simp only [Bool.and_eq_true, Nat.ble_eq, Nat.blt_eq]
        by_cases hoi : o = i
        · subst hoi; rw [if_pos (by omega), if_pos (by omega)]
        · rw [if_neg (by omega)]
          by_cases h3 : o < i
          · rw [if_pos h3, if_pos (by omega)]
          · rw [if_neg h3, if_neg (by omega)]
    · obtain ⟨i1, i2, i3⟩ := hi
      have h' : i = d.len := by simp at h; omega
      have z0 : 0 + 0 * 1 = 0 := rfl
      have z1 : 0 + 1 * 1 = 1 := rfl
      simp only [z0, z1]
      rcases hc with ⟨l, hk⟩ | ⟨l, rfl, ha⟩ | ⟨l, h4, h8, ha, hb⟩
      · rw [ev_c0 _ _ _ _ l]
        rcases hk with ⟨rfl, hn⟩ | ⟨rfl, hv⟩
        · simp only [if_true, Int.reduceBEq, Bool.false_eq_true, false_implies, true_implies, and_true, true_and, Bool.true_eq_false]
          simp; omega
        · have := hg v hv.1 hv.2
          have ev : (g.el v.toNat 0).toI = vD g v := rfl
          rw [if_neg (by decide), ev]
          simp only [Int.reduceBEq, Bool.false_eq_true, false_implies, true_implies, and_true, true_and, Bool.true_eq_false]
          simp; omega
      · have ra := ev_in hg ha
        have e0 := i3 0 (by omega)
        have q0 : 0 < i := by omega
        rw [ev_c1 _ _ _ _ l, opT_v rfl e0]
        simp only [if_pos q0]
        generalize evT (vD g) (exE d 0) = r at *
        simp only [Int.reduceBEq, Bool.false_eq_true, false_implies, true_implies, and_true, true_and, Bool.true_eq_false]
        have w : IntKind.i64.wrap (0 - r.1) = 0 - r.1 := wr _ (by omega)
        rw [w]
        have := opT_w (k := 5) (a := 0) (b := r.1) (x := 0 - r.1) rfl (by omega)
        exact ⟨fun c => by rw [this.1 c]; exact ⟨rfl, rfl⟩, fun c => by rw [this.2 c]; exact ⟨rfl, rfl⟩⟩
      · have ra := ev_in hg ha
        have rb := ev_in hg hb
        have e0 := i3 0 (by omega)
        have e1 := i3 1 (by omega)
        have q0 : 0 < i := by omega
        have q1 : 1 < i := by omega
        rw [ev_c2 _ _ _ _ l, opT_v e0 e1]
        simp only [if_pos q0, if_pos q1]
        generalize evT (vD g) (exE d 0) = r at *
        generalize evT (vD g) (exE d 1) = s at *
        obtain ⟨a, ea⟩ := r
        obtain ⟨b, eb⟩ := s
        dsimp only at *
        have fin : ∀ {k x : Int}, valP k a b = x → (k ≤ 6 ∨ b ≠ 0) → ((decide (x < -2147483648) || decide (x > 2147483647)) = true → 0 = (if errP k a b = 0 then (valP k a b, 0) else (0, errP k a b)).1 ∧ 2 = (if errP k a b = 0 then (valP k a b, 0) else (0, errP k a b)).2) ∧ ((decide (x < -2147483648) || decide (x > 2147483647)) = false → x = (if errP k a b = 0 then (valP k a b, 0) else (0, errP k a b)).1 ∧ 0 = (if errP k a b = 0 then (valP k a b, 0) else (0, errP k a b)).2) := fun h1 h2 => by
          have := opT_w h1 h2
          exact ⟨fun c => by rw [this.1 c]; exact ⟨rfl, rfl⟩, fun c => by rw [this.2 c]; exact ⟨rfl, rfl⟩⟩
        have z3 : ∀ {k : Int}, 7 ≤ k → (b == 0) = true → 0 = (if errP k a b = 0 then (valP k a b, 0) else (0, errP k a b)).1 ∧ 3 = (if errP k a b = 0 then (valP k a b, 0) else (0, errP k a b)).2 := fun {k} h7 c => by
          have c : b = 0 := by simpa using c
          have := errP_or k a b
          rw [if_neg (by omega)]
          exact ⟨rfl, by dsimp only; omega⟩
        have hk : k = 4 ∨ k = 5 ∨ k = 6 ∨ k = 7 ∨ k = 8 := by omega
        rcases hk with rfl | rfl | rfl | rfl | rfl <;> simp only [Int.reduceBEq, Bool.false_eq_true, false_implies, true_implies, and_true, true_and, Bool.true_eq_false]
        · rw [wr (a + b) (by omega)]; exact fin rfl (by omega)
        · rw [wr (a - b) (by omega)]; exact fin rfl (by omega)
        · rw [wr (a * b) (mul_big a b (by omega) (by omega) (by omega) (by omega))]; exact fin rfl (by omega)
        · have q := Int.natAbs_tdiv_le_natAbs a b
          rw [wr (a.tdiv b) (by omega)]
          exact ⟨z3 (by omega), fun c => ⟨by simpa using c, fin rfl (.inr (by simpa using c))⟩⟩
        · exact ⟨z3 (by omega), fun c => ⟨by simpa using c, fin (show a - a.tdiv b * b = a.tmod b by rw [Int.tmod_def, Int.mul_comm]) (.inr (by simpa using c))⟩⟩
  · trivial
theorem rev_ok : ConOK Try.prog 17 revC :=
  con_rec revM (fun _ _ => by kernel_rfl) fun m ih => by
    rw [rev_under] at ih ⊢
    exact rev_step m ih
end Go.Proofs.Ytdagadcflignfaa.Sx.Z
