/-
  JetsamChannels' contract.
-/
import Derived.Test.YtdagadcflignfaaA18
import Derived.Test.YtdagadcflignfaaA19
namespace Go.Proofs.Ytdagadcflignfaa.Sx.Z
open Go.RowKit
def RL : D := .l [[.l [[.i 1], [.i (-1)]]], [.l [[.i (-1)], [.i 0]]]]
def szP (n : Int) : Int := 1 + IntKind.i64.wrap ((IntKind.u64.wrap n).tmod 16)
def mgV (v : D) (k m : Nat) : D := .l ((List.range m).map fun j => [D.i (((k - m + j) % 2 : Nat) : Int), D.i (v.el (k - m + j) 0).toI])
theorem szP_in (n : Int) : 1 ≤ szP n ∧ szP n ≤ 16 := by
  have h1 : 0 ≤ IntKind.u64.wrap n := by rw [IntKind.wrap_u64]; omega
  have h2 := Int.tmod_nonneg 16 h1
  have h3 := Int.tmod_lt_of_pos (IntKind.u64.wrap n) (show (0 : Int) < 16 by omega)
  unfold szP
  rw [wr _ (by omega)]
  omega
theorem mg_len (v : D) (k m : Nat) : (mgV v k m).len = m := by show (List.map _ (List.range m)).length = m; simp
theorem mg_sub (v : D) {k M a m : Nat} (h : a + m = M) (hk : M ≤ k) : (mgV v k M).sub a (a + m) = mgV v k m := by
  show D.l (((List.map _ (List.range M)).take (a + m)).drop a) = D.l (List.map _ (List.range m))
  congr 1
  apply List.ext_getElem?
  intro q
  rw [List.getElem?_drop, List.getElem?_map]
  by_cases hq : q < m
  · rw [List.getElem?_take_of_lt (by omega), List.getElem?_map, List.getElem?_range (by omega), List.getElem?_range hq]
    simp only [Option.map_some]
    rw [show k - M + (a + q) = k - m + q by omega]
  · rw [List.getElem?_eq_none (by simp; omega), List.getElem?_eq_none (by simp; omega)]; rfl
theorem mg_push (v : D) {k m : Nat} (hk : m ≤ k) : (mgV v k m).app (D.l [[D.i ((k % 2 : Nat) : Int), D.i (v.el k 0).toI]]) = mgV v (k + 1) (m + 1) := by
  show D.l (List.map _ (List.range m) ++ _) = D.l (List.map _ (List.range (m + 1)))
  congr 1
  rw [List.range_succ, List.map_append]
  rw [show k + 1 - (m + 1) = k - m by omega]
  congr 1
  show [[D.i ((k % 2 : Nat) : Int), D.i (v.el k 0).toI]] = [[D.i (((k - m + m) % 2 : Nat) : Int), D.i (v.el (k - m + m) 0).toI]]
  rw [show k - m + m = k by omega]
theorem mg_el (v : D) {k m j : Nat} (h : j < m) : (mgV v k m).el j 0 = D.i (((k - m + j) % 2 : Nat) : Int) ∧ (mgV v k m).el j 1 = D.i (v.el (k - m + j) 0).toI := by
  have e : (mgV v k m).rows.getD j [] = [D.i (((k - m + j) % 2 : Nat) : Int), D.i (v.el (k - m + j) 0).toI] := by
    show (List.map _ (List.range m)).getD j [] = _
    rw [List.getD_eq_getElem?_getD, List.getElem?_map, List.getElem?_range h]; rfl
  unfold D.el
  rw [e]; exact ⟨rfl, rfl⟩
def cS (size : Int) (v : D) : Nat → (Int × Int) × D
  | 0 => ((0, 0), prD 2 fun _ => (1, 0))
  | k + 1 => (sndL size 2 (cS size v k).1 (cS size v k).2 ((k % 2 : Nat) : Int) (ofI (v.el k 0).toI (v.el k 0).toI), sndD 2 (cS size v k).2 ((k % 2 : Nat) : Int) (ofI (v.el k 0).toI (v.el k 0).toI))
/-- What a tag's numbers are. -/
def bdV (v : D) (t : Nat) : Nat → Int × Int
  | 0 => (1, 0)
  | k + 1 => if t = k % 2 then jnI (bdV v t k) (ofI (v.el k 0).toI (v.el k 0).toI) else bdV v t k
def Rn (v : D) : Prop := ∀ i, i < v.len → -2147483648 ≤ (v.el i 0).toI ∧ (v.el i 0).toI ≤ 2147483647
theorem of_one {u : Int} (h : -2147483648 ≤ u ∧ u ≤ 2147483647) : ofI u u = (u, u) := nm_id (p := (u, u)) (.inr (by dsimp only; omega))
theorem cS_eq {n : Int} {v : D} (hv : Rn v) : ∀ k, k ≤ v.len → cS (szP n) v k = ((0, ((min k (szP n).toNat : Nat) : Int)), prD 2 fun t => bdV v t k)
  | 0, _ => by
    show ((0, 0), prD 2 fun _ => (1, 0)) = ((0, ((min 0 (szP n).toNat : Nat) : Int)), prD 2 fun _ => (1, 0))
    rw [Nat.zero_min]; rfl
  | k + 1, hk => by
    have hz := szP_in n
    have hu := hv k (by omega)
    have hu' := of_one hu
    have e := cS_eq (n := n) hv k (by omega)
    have hB : sndB 2 (prD 2 fun t => bdV v t k) ((k % 2 : Nat) : Int) (ofI (v.el k 0).toI (v.el k 0).toI) = true := by
      unfold sndB
      rw [hu', prD_len]
      simp
      omega
    show (sndL (szP n) 2 (cS (szP n) v k).1 (cS (szP n) v k).2 ((k % 2 : Nat) : Int) (ofI (v.el k 0).toI (v.el k 0).toI), sndD 2 (cS (szP n) v k).2 ((k % 2 : Nat) : Int) (ofI (v.el k 0).toI (v.el k 0).toI)) = _
    rw [e]
    unfold sndL sndD
    rw [if_pos hB, if_pos hB]
    refine Prod.ext ?_ ?_
    · have q : (if ((min k (szP n).toNat : Nat) : Int) < szP n then IntKind.i64.wrap (((min k (szP n).toNat : Nat) : Int) + 1) else szP n) = ((min (k + 1) (szP n).toNat : Nat) : Int) := by
        split
        · rw [wr _ (by omega)]; omega
        · omega
      show ofI 0 (if ((min k (szP n).toNat : Nat) : Int) < szP n then IntKind.i64.wrap (((min k (szP n).toNat : Nat) : Int) + 1) else szP n) = (0, ((min (k + 1) (szP n).toNat : Nat) : Int))
      rw [q]
      exact nm_id (p := (0, ((min (k + 1) (szP n).toNat : Nat) : Int))) (.inr (by dsimp only; omega))
    · show setR (prD 2 fun t => bdV v t k) (((k % 2 : Nat) : Int).toNat) (jnI (pr (prD 2 fun t => bdV v t k) (((k % 2 : Nat) : Int).toNat)) (ofI (v.el k 0).toI (v.el k 0).toI)) = prD 2 fun t => bdV v t (k + 1)
      rw [Int.toNat_natCast, prD_el (by omega)]
      have hr := setR_pr 2 (fun t => bdV v t k) (k := k % 2) (by omega) (jnI (bdV v (k % 2) k) (ofI (v.el k 0).toI (v.el k 0).toI))
      have : (prD 2 fun j => if j = k % 2 then jnI (bdV v (k % 2) k) (ofI (v.el k 0).toI (v.el k 0).toI) else bdV v j k) = prD 2 fun t => bdV v t (k + 1) := prD_congr fun j _ => by
        by_cases h : j = k % 2
        · rw [if_pos h]; subst h; exact (if_pos rfl).symm
        · rw [if_neg h]; exact (if_neg h).symm
      rw [← this]
      exact congrArg D.l hr
theorem jn_has {a b : Int × Int} {x : Int} (ha : Nm a) (hb : Nm b) (h : (a.1 ≤ x ∧ x ≤ a.2) ∨ (b.1 ≤ x ∧ x ≤ b.2)) : (jnI a b).1 ≤ x ∧ x ≤ (jnI a b).2 := by
  unfold jnI
  have ia := nm_id ha
  have ib := nm_id hb
  by_cases h1 : a.2 < a.1
  · rw [if_pos h1, ib]; rcases h with h | h
    · omega
    · exact h
  · rw [if_neg h1]
    by_cases h2 : b.2 < b.1
    · rw [if_pos h2, ia]; rcases h with h | h
      · exact h
      · omega
    · rw [if_neg h2]
      have ha' : -2147483648 ≤ a.1 ∧ a.1 ≤ a.2 ∧ a.2 ≤ 2147483647 := by rcases ha with rfl | h; exact absurd (by decide) h1; exact h
      have hb' : -2147483648 ≤ b.1 ∧ b.1 ≤ b.2 ∧ b.2 ≤ 2147483647 := by rcases hb with rfl | h; exact absurd (by decide) h2; exact h
      rw [nm_id (p := (min a.1 b.1, max a.2 b.2)) (.inr (by dsimp only; omega))]
      dsimp only
      omega
theorem bd_nm (v : D) (t : Nat) : ∀ k, Nm (bdV v t k)
  | 0 => .inl rfl
  | k + 1 => by
    unfold bdV
    split
    · exact nm_jn
    · exact bd_nm v t k
theorem bd_has {v : D} (hv : Rn v) {t j : Nat} (hj : j % 2 = t) : ∀ k, k ≤ v.len → j < k → (bdV v t k).1 ≤ (v.el j 0).toI ∧ (v.el j 0).toI ≤ (bdV v t k).2
  | 0, _, h => by omega
  | k + 1, hk, h => by
    have o := of_one (hv k (by omega))
    unfold bdV
    by_cases e : j = k
    · subst e
      rw [if_pos hj.symm, o]
      exact jn_has (bd_nm v t j) (.inr (by have := hv j (by omega); dsimp only; omega)) (.inr (by dsimp only; omega))
    · have ih := bd_has hv hj k (by omega) (by omega)
      split
      · rw [o]
        exact jn_has (bd_nm v t k) (.inr (by have := hv k (by omega); dsimp only; omega)) (.inl ih)
      · exact ih
/-- All that was sent is had. -/
theorem mg_has {n : Int} {v : D} (hv : Rn v) {k : Nat} (hk : k ≤ v.len) : hasQ (cS (szP n) v k).1.1 (cS (szP n) v k).1.2 (cS (szP n) v k).2 (mgV v k (min k (szP n).toNat)) = true := by
  rw [cS_eq hv k hk]
  unfold hasQ
  dsimp only
  rw [mg_len]
  simp only [Bool.and_eq_true, decide_eq_true_eq]
  refine ⟨allQ_iff.2 fun j hj => ?_, by omega, by omega⟩
  obtain ⟨e0, e1⟩ := mg_el v (k := k) hj
  unfold hasJ
  dsimp only
  rw [e0, e1, prD_len]
  have f0 : (D.i (((k - min k (szP n).toNat + j) % 2 : Nat) : Int)).toI.toNat = (k - min k (szP n).toNat + j) % 2 := Int.toNat_natCast _
  have f1 : (D.i (((k - min k (szP n).toNat + j) % 2 : Nat) : Int)).toI = (((k - min k (szP n).toNat + j) % 2 : Nat) : Int) := rfl
  have f2 : (D.i (v.el (k - min k (szP n).toNat + j) 0).toI).toI = (v.el (k - min k (szP n).toNat + j) 0).toI := rfl
  rw [f0, f1, f2, prD_el (by omega)]
  have := bd_has hv (t := (k - min k (szP n).toNat + j) % 2) (j := k - min k (szP n).toNat + j) rfl k hk (by omega)
  simp only [Bool.and_eq_true, decide_eq_true_eq]
  omega
def badP (i : Nat) : Bool := (stpR RL (if i % 2 = 0 then 1 else 2) ((i % 2 : Nat) : Int)).2 || !(stpR RL (if i % 2 = 0 then 1 else 2) (IntKind.i64.wrap (1 - ((i % 2 : Nat) : Int)))).2 || !hasR (stpR RL (if i % 2 = 0 then 1 else 2) ((i % 2 : Nat) : Int)).1 ((RL.el (i % 2) 0).el (i % 2) 0).toI || hasR (stpR RL (if i % 2 = 0 then 1 else 2) ((i % 2 : Nat) : Int)).1 (IntKind.i64.wrap (1 - ((RL.el (i % 2) 0).el (i % 2) 0).toI))
theorem bad_no (i : Nat) : badP i = false := by
  unfold badP
  rcases Nat.mod_two_eq_zero_or_one i with h | h <;> rw [h] <;> kernel_rfl
theorem st_1 (i : Nat) : (stpR RL (if i % 2 = 0 then 1 else 2) ((i % 2 : Nat) : Int)).1 = if (i + 1) % 2 = 0 then 1 else 2 := by
  rcases Nat.mod_two_eq_zero_or_one i with h | h
  · rw [h, show (i + 1) % 2 = 1 by omega]; kernel_rfl
  · rw [h, show (i + 1) % 2 = 0 by omega]; kernel_rfl
theorem st_2 (i : Nat) : ((RL.el (i % 2) 0).el (i % 2) 0).toI = (((i + 1) % 2 : Nat) : Int) := by
  rcases Nat.mod_two_eq_zero_or_one i with h | h
  · rw [h, show (i + 1) % 2 = 1 by omega]; kernel_rfl
  · rw [h, show (i + 1) % 2 = 0 by omega]; kernel_rfl
theorem st_3 (i : Nat) : (RL.el (i % 2) 0).len = 2 := by
  rcases Nat.mod_two_eq_zero_or_one i with h | h <;> rw [h] <;> kernel_rfl
theorem RL_len : RL.len = 2 := rfl
theorem szP_wr (n : Int) : IntKind.i64.wrap (1 + IntKind.i64.wrap ((IntKind.u64.wrap n).tmod 16)) = szP n := wr (szP n) (by have := szP_in n; omega)
theorem tm2 (i : Nat) : ((i : Int)).tmod 2 = ((i % 2 : Nat) : Int) := by rw [Int.tmod_eq_emod_of_nonneg (by omega)]; omega
/-- The tags that there may be. -/
def tgK (k : Nat) : D := if k = 0 then .l [] else if k = 1 then .l [[.i 0]] else .l [[.i 0], [.i 1]]
theorem bd_none {v : D} : ∀ k t, k ≤ t → t < 2 → bdV v t k = (1, 0)
  | 0, _, _, _ => rfl
  | 1, t, h, h2 => by
    obtain rfl : t = 1 := by omega
    rfl
  | k + 2, t, h, h2 => by omega
theorem tg_eq {v : D} (hv : Rn v) {n : Int} {k : Nat} (hk : k ≤ v.len) : tgD (cS (szP n) v k).2 (cS (szP n) v k).2.len = tgK k := by
  rw [cS_eq hv k hk]
  dsimp only
  rw [prD_len]
  have some : ∀ t, t < k → t < 2 → ¬ (pr (prD 2 fun t => bdV v t k) t).2 < (pr (prD 2 fun t => bdV v t k) t).1 := fun t h h2 => by
    rw [prD_el h2]
    have := bd_has hv (t := t) (j := t) (by omega) k hk h
    omega
  have none : ∀ t, k ≤ t → t < 2 → (pr (prD 2 fun t => bdV v t k) t).2 < (pr (prD 2 fun t => bdV v t k) t).1 := fun t h h2 => by
    rw [prD_el h2, bd_none k t h h2]; decide
  unfold tgD
  rw [show List.range 2 = [0, 1] from rfl]
  by_cases h0 : k = 0
  · have a := none 0 (by omega) (by omega)
    have b := none 1 (by omega) (by omega)
    simp [tgK, h0, a, b]
    subst h0
    simp [none 0 (by omega) (by omega), none 1 (by omega) (by omega)]
  · have a := some 0 (by omega) (by omega)
    by_cases h1 : k = 1
    · have b := none 1 (by omega) (by omega)
      simp [tgK, h1]
      subst h1
      simp [a, b]
    · have b := some 1 (by omega) (by omega)
      simp [tgK, h0, h1, a, b]
theorem tg_fix (k : Nat) : itA RL (tgK k) 3 = itA RL (tgK k) 2 ∧ IntKind.u8.wrap ↑(BitVec.ofInt IntKind.u8.bits (itA RL (tgK k) 2) &&& ~~~BitVec.ofInt IntKind.u8.bits 3).toNat = 0 ∧ (k ≠ 0 → hasR (itA RL (tgK k) 2) 1 = true) ∧ (tgK k).len ≤ 2 := by
  unfold tgK
  split
  · exact ⟨by kernel_rfl, by kernel_rfl, fun h => by omega, by decide⟩
  · split
    · exact ⟨by kernel_rfl, by kernel_rfl, fun _ => by kernel_rfl, by decide⟩
    · exact ⟨by kernel_rfl, by kernel_rfl, fun _ => by kernel_rfl, by decide⟩

noncomputable def jchanS : FSpec := fun ds _ => match ds with
  | [.i n, .d v] => some { val := .one (.sc (.bool (.lit true))), vc := [Rn v] }
  | _ => none
noncomputable def jchanC : Con := con [iA, .sc (.rows 21)] jchanS
theorem jchan_ok : ConOK Try.prog 6 jchanC := by
  refine fn_ob tt_ok mixed Try.func6 rfl (fun _ _ => by kernel_rfl) (A := fun ds => ⟨fun _ => Cons.of [(22, qnoneC), (23, rstartC), (25, iconstC), (24, qsendC), (26, rstepC), (27, rhasSC), (28, qhasC), (29, standsC), (31, qtagsC), (30, rallC)], fun k => match k, ds with | 6, [.i n, .d v] => some { ι := Nat, pre := fun _ k => k ≤ min v.len 40, μ := fun k => min v.len 40 + 1 - k, st := fun s k => famR s [(10, .one (.sc (.int .i64 (.sym ((k : Nat)))))), (7, .one (.sc (.int .u8 (.sym (if k % 2 = 0 then 1 else 2))))), (9, .one (.sc (.int .i64 (.sym (((k % 2 : Nat) : Int)))))), (8, .one (.sc (.osl 95 (s.nx - 1) (.sym ((min k ((szP n).toNat + 1)) - (min k (szP n).toNat))) (.sym (min k (szP n).toNat)))))] [1, 4, 5, 6] [(idOf s 6, .own 85 ([.c (.int .i64 (.sym ((cS (szP n) v (k)).1.1))), .c (.int .i64 (.sym ((cS (szP n) v (k)).1.2))), .c (.rows 82 (cS (szP n) v (k)).2)])), (s.nx - 1, .orow 95 (mgV v k (min k ((szP n).toNat + 1))))] [5] } | _, _ => none, fun k => match k, ds with | 2, [.i n, .d v] => some { ι := Bool, pre := fun _ _ => True, μ := fun _ => 0, st := fun s _ => famR s [(5, .one (.sc (.ptr (s.nx - 1) (.lit 0))))] [1, 4] [(s.nx - 1, .own 80 ([.c (.int .i64 (.sym (0))), .c (.int .i64 (.sym (szP n))), .c (.int .i64 (.sym (0))), .c (.int .i64 (.sym (1))), .c (.int .i64 (.sym (2))), .c (.rows 35 RL)])), (s.nx + 56, .gone), (s.nx + 40, .gone), (s.nx + 48, .gone)] [] } | _, _ => none⟩) (fun _ _ => (cons_cons qnone_ok (cons_cons rstart_ok (cons_cons iconst_ok (cons_cons qsend_ok (cons_cons rstep_ok (cons_cons rhasS_ok (cons_cons qhas_ok (cons_cons stands_ok (cons_cons qtags_ok (cons_cons rall_ok cons_nil))))))))))) (by kernel_rfl) ?_
  intro ds fr
  unfold jchanS
  split
  · rename_i n v
    refine kmp (q := Rn v →
 ((0 : Nat) + (2 : Nat) ≤ (D.l [[D.i (1 : Int)], [D.i (-1 : Int)]]).len ∧
 (0 : Nat) + (2 : Nat) ≤ (D.l [[D.i (-1 : Int)], [D.i (0 : Int)]]).len ∧
 ∃ (i : Bool),
 True ∧
 nat_lit 0 + nat_lit 2 ≤
 (D.l
 [[(D.l [[D.i (1 : Int)], [D.i (-1 : Int)]]).sub (0 : Nat) ((0 : Nat) + (2 : Nat))],
 [(D.l [[D.i (-1 : Int)], [D.i (0 : Int)]]).sub (0 : Nat) ((0 : Nat) + (2 : Nat))]]).len ∧
 nat_lit 0 + nat_lit 2 ≤
 (D.l
 [[(D.l [[D.i (1 : Int)], [D.i (-1 : Int)]]).sub (0 : Nat) ((0 : Nat) + (2 : Nat))],
 [(D.l [[D.i (-1 : Int)], [D.i (0 : Int)]]).sub (0 : Nat) ((0 : Nat) + (2 : Nat))]]).len ∧
 nat_lit 0 + nat_lit 2 ≤
 (D.l
 [[(D.l [[D.i (1 : Int)], [D.i (-1 : Int)]]).sub (0 : Nat) ((0 : Nat) + (2 : Nat))],
 [(D.l [[D.i (-1 : Int)], [D.i (0 : Int)]]).sub (0 : Nat) ((0 : Nat) + (2 : Nat))]]).len ∧
 v.rows = v.rows ∧
 false = false ∧
 (0 : Int) = (0 : Int) ∧
 IntKind.i64.wrap ((1 : Int) + IntKind.i64.wrap ((IntKind.u64.wrap n).tmod (16 : Int))) = szP n ∧
 (0 : Int) = (0 : Int) ∧
 (1 : Int) = (1 : Int) ∧
 (2 : Int) = (2 : Int) ∧
 List.drop (nat_lit 0)
 (List.take (nat_lit 0 + nat_lit 2)
 [[(D.l [[D.i (1 : Int)], [D.i (-1 : Int)]]).sub (0 : Nat) ((0 : Nat) + (2 : Nat))],
 [(D.l [[D.i (-1 : Int)], [D.i (0 : Int)]]).sub (0 : Nat) ((0 : Nat) + (2 : Nat))]]) =
 [[D.l [[D.i (1 : Int)], [D.i (-1 : Int)]]], [D.l [[D.i (-1 : Int)], [D.i (0 : Int)]]]]) ∧
 ∀ (i : Bool),
 True →
 ((1 : Int) ≤ (2 : Int) ∧ (2 : Int) ≤ (4 : Int)) ∧
 (∃ (i : Nat),
 i.le (min v.len (40 : Nat)) ∧
 (0 : Int) = (↑i : Int) ∧
 ((1 : Int) = if i % (2 : Nat) = (0 : Nat) then (1 : Int) else (2 : Int)) ∧
 (0 : Int) = (↑(i % (2 : Nat)) : Int) ∧
 min i (szP n).toNat = (0 : Nat) ∧
 v.rows = v.rows ∧
 false = false ∧
 (0 : Int) = (cS (szP n) v i).fst.fst ∧
 (0 : Int) = (cS (szP n) v i).fst.snd ∧
 List.map (fun (j : Nat) => cl ((1 : Int), (0 : Int))) (List.range (Int.toNat (2 : Int))) = (cS (szP n) v i).snd.rows ∧
 List.map
 (fun (j : Nat) =>
 [D.i (↑((i - min i ((szP n).toNat + (1 : Nat)) + j) % (2 : Nat)) : Int),
 D.i (v.el (i - min i ((szP n).toNat + (1 : Nat)) + j) (0 : Nat)).toI])
 (List.range (min i ((szP n).toNat + (1 : Nat)))) =
 [] ∧
 (0 : Int) = (0 : Int) ∧
 szP n = szP n ∧
 (0 : Int) = (0 : Int) ∧
 (1 : Int) = (1 : Int) ∧
 (2 : Int) = (2 : Int) ∧
 [[D.l [[D.i (1 : Int)], [D.i (-1 : Int)]]], [D.l [[D.i (-1 : Int)], [D.i (0 : Int)]]]] =
 [[D.l [[D.i (1 : Int)], [D.i (-1 : Int)]]], [D.l [[D.i (-1 : Int)], [D.i (0 : Int)]]]]) ∧
 ∀ (i : Nat),
 i.le (min v.len (40 : Nat)) →
 ((decide ((↑i : Int) < (↑v.len : Int)) && decide ((↑i : Int) < (40 : Int))) = true →
 ((0 : Int) ≤ (↑i : Int) ∧ (↑i : Int) < (↑v.len : Int)) ∧
 (cS (szP n) v i).snd.len ≤ (8796093022208 : Nat) ∧
 ((0 : Int) ≤ (↑(i % (2 : Nat)) : Int) ∧ (↑(i % (2 : Nat)) : Int) < (↑RL.len : Int)) ∧
 ((0 : Int) ≤ (↑i : Int).tmod (2 : Int) ∧ (↑i : Int).tmod (2 : Int) < (↑(RL.el (↑(i % (2 : Nat)) : Int).toNat (0 : Nat)).len : Int)) ∧
 (0 : Nat) = (D.l []).len ∧
 ((0 : Nat) +
 ((mgV v i (min i ((szP n).toNat + (1 : Nat)))).sub (min i ((szP n).toNat + (1 : Nat)) - min i (szP n).toNat)
 (min i ((szP n).toNat + (1 : Nat)) - min i (szP n).toNat + min i (szP n).toNat)).len) *
 (16 : Nat) ≤
 (140737488355328 : Nat) ∧
 min i ((szP n).toNat + (1 : Nat)) - min i (szP n).toNat + min i (szP n).toNat ≤
 (mgV v i (min i ((szP n).toNat + (1 : Nat)))).len ∧
 ((0 : Int) ≤ (↑i : Int) ∧ (↑i : Int) < (↑v.len : Int)) ∧
 (0 : Nat) +
 ((mgV v i (min i ((szP n).toNat + (1 : Nat)))).sub (min i ((szP n).toNat + (1 : Nat)) - min i (szP n).toNat)
 (min i ((szP n).toNat + (1 : Nat)) - min i (szP n).toNat + min i (szP n).toNat)).len =
 ((D.l []).app
 ((mgV v i (min i ((szP n).toNat + (1 : Nat)))).sub (min i ((szP n).toNat + (1 : Nat)) - min i (szP n).toNat)
 (min i ((szP n).toNat + (1 : Nat)) - min i (szP n).toNat + min i (szP n).toNat))).len ∧
 ((0 : Nat) +
 ((mgV v i (min i ((szP n).toNat + (1 : Nat)))).sub (min i ((szP n).toNat + (1 : Nat)) - min i (szP n).toNat)
 (min i ((szP n).toNat + (1 : Nat)) - min i (szP n).toNat + min i (szP n).toNat)).len +
 ((D.l [[D.i ((↑i : Int).tmod (2 : Int)), D.i (IntKind.i64.wrap (v.el (↑i : Int).toNat (0 : Nat)).toI)]]).sub
 (0 : Nat) ((0 : Nat) + (1 : Nat))).len) *
 (16 : Nat) ≤
 (140737488355328 : Nat) ∧
 (0 : Nat) + (1 : Nat) ≤
 (D.l [[D.i ((↑i : Int).tmod (2 : Int)), D.i (IntKind.i64.wrap (v.el (↑i : Int).toNat (0 : Nat)).toI)]]).len ∧
 (decide
 ((↑((0 : Nat) +
 ((mgV v i (min i ((szP n).toNat + (1 : Nat)))).sub
 (min i ((szP n).toNat + (1 : Nat)) - min i (szP n).toNat)
 (min i ((szP n).toNat + (1 : Nat)) - min i (szP n).toNat + min i (szP n).toNat)).len +
 ((D.l
 [[D.i ((↑i : Int).tmod (2 : Int)),
 D.i (IntKind.i64.wrap (v.el (↑i : Int).toNat (0 : Nat)).toI)]]).sub
 (0 : Nat) ((0 : Nat) + (1 : Nat))).len) :
 Int) >
 szP n) =
 true →
 nat_lit 1 ≤
 (0 : Nat) +
 ((mgV v i (min i ((szP n).toNat + (1 : Nat)))).sub
 (min i ((szP n).toNat + (1 : Nat)) - min i (szP n).toNat)
 (min i ((szP n).toNat + (1 : Nat)) - min i (szP n).toNat + min i (szP n).toNat)).len +
 ((D.l [[D.i ((↑i : Int).tmod (2 : Int)), D.i (IntKind.i64.wrap (v.el (↑i : Int).toNat (0 : Nat)).toI)]]).sub
 (0 : Nat) ((0 : Nat) + (1 : Nat))).len ∧
 (((stpR RL (if i % (2 : Nat) = (0 : Nat) then (1 : Int) else (2 : Int)) ((↑i : Int).tmod (2 : Int))).snd ||
 !(stpR RL (if i % (2 : Nat) = (0 : Nat) then (1 : Int) else (2 : Int))
 (IntKind.i64.wrap ((1 : Int) - (↑i : Int).tmod (2 : Int)))).snd ||
 !hasR
 (stpR RL (if i % (2 : Nat) = (0 : Nat) then (1 : Int) else (2 : Int))
 ((↑i : Int).tmod (2 : Int))).fst
 ((RL.el (↑(i % (2 : Nat)) : Int).toNat (0 : Nat)).el ((↑i : Int).tmod (2 : Int)).toNat
 (0 : Nat)).toI ||
 hasR
 (stpR RL (if i % (2 : Nat) = (0 : Nat) then (1 : Int) else (2 : Int))
 ((↑i : Int).tmod (2 : Int))).fst
 (IntKind.i64.wrap
 ((1 : Int) -
 ((RL.el (↑(i % (2 : Nat)) : Int).toNat (0 : Nat)).el ((↑i : Int).tmod (2 : Int)).toNat
 (0 : Nat)).toI))) =
 false ∧
 True →
 nat_lit 1 +
 ((0 : Nat) +
 ((mgV v i (min i ((szP n).toNat + (1 : Nat)))).sub
 (min i ((szP n).toNat + (1 : Nat)) - min i (szP n).toNat)
 (min i ((szP n).toNat + (1 : Nat)) - min i (szP n).toNat + min i (szP n).toNat)).len +
 ((D.l
 [[D.i ((↑i : Int).tmod (2 : Int)),
 D.i (IntKind.i64.wrap (v.el (↑i : Int).toNat (0 : Nat)).toI)]]).sub
 (0 : Nat) ((0 : Nat) + (1 : Nat))).len -
 nat_lit 1) ≤
 (((D.l []).app
 ((mgV v i (min i ((szP n).toNat + (1 : Nat)))).sub
 (min i ((szP n).toNat + (1 : Nat)) - min i (szP n).toNat)
 (min i ((szP n).toNat + (1 : Nat)) - min i (szP n).toNat + min i (szP n).toNat))).app
 ((D.l
 [[D.i ((↑i : Int).tmod (2 : Int)),
 D.i (IntKind.i64.wrap (v.el (↑i : Int).toNat (0 : Nat)).toI)]]).sub
 (0 : Nat) ((0 : Nat) + (1 : Nat)))).len) ∧
 (((stpR RL (if i % (2 : Nat) = (0 : Nat) then (1 : Int) else (2 : Int)) ((↑i : Int).tmod (2 : Int))).snd ||
 !(stpR RL (if i % (2 : Nat) = (0 : Nat) then (1 : Int) else (2 : Int))
 (IntKind.i64.wrap ((1 : Int) - (↑i : Int).tmod (2 : Int)))).snd ||
 !hasR
 (stpR RL (if i % (2 : Nat) = (0 : Nat) then (1 : Int) else (2 : Int))
 ((↑i : Int).tmod (2 : Int))).fst
 ((RL.el (↑(i % (2 : Nat)) : Int).toNat (0 : Nat)).el ((↑i : Int).tmod (2 : Int)).toNat
 (0 : Nat)).toI ||
 hasR
 (stpR RL (if i % (2 : Nat) = (0 : Nat) then (1 : Int) else (2 : Int))
 ((↑i : Int).tmod (2 : Int))).fst
 (IntKind.i64.wrap
 ((1 : Int) -
 ((RL.el (↑(i % (2 : Nat)) : Int).toNat (0 : Nat)).el ((↑i : Int).tmod (2 : Int)).toNat
 (0 : Nat)).toI))) =
 false ∧
 True →
 ((((D.l []).app
 ((mgV v i (min i ((szP n).toNat + (1 : Nat)))).sub
 (min i ((szP n).toNat + (1 : Nat)) - min i (szP n).toNat)
 (min i ((szP n).toNat + (1 : Nat)) - min i (szP n).toNat + min i (szP n).toNat))).app
 ((D.l
 [[D.i ((↑i : Int).tmod (2 : Int)),
 D.i (IntKind.i64.wrap (v.el (↑i : Int).toNat (0 : Nat)).toI)]]).sub
 (0 : Nat) ((0 : Nat) + (1 : Nat)))).sub
 (nat_lit 1)
 (nat_lit 1 +
 ((0 : Nat) +
 ((mgV v i (min i ((szP n).toNat + (1 : Nat)))).sub
 (min i ((szP n).toNat + (1 : Nat)) - min i (szP n).toNat)
 (min i ((szP n).toNat + (1 : Nat)) - min i (szP n).toNat + min i (szP n).toNat)).len +
 ((D.l
 [[D.i ((↑i : Int).tmod (2 : Int)),
 D.i (IntKind.i64.wrap (v.el (↑i : Int).toNat (0 : Nat)).toI)]]).sub
 (0 : Nat) ((0 : Nat) + (1 : Nat))).len -
 nat_lit 1))).len ≤
 (8796093022208 : Nat)) ∧
 (((stpR RL (if i % (2 : Nat) = (0 : Nat) then (1 : Int) else (2 : Int)) ((↑i : Int).tmod (2 : Int))).snd ||
 !(stpR RL (if i % (2 : Nat) = (0 : Nat) then (1 : Int) else (2 : Int))
 (IntKind.i64.wrap ((1 : Int) - (↑i : Int).tmod (2 : Int)))).snd ||
 !hasR
 (stpR RL (if i % (2 : Nat) = (0 : Nat) then (1 : Int) else (2 : Int))
 ((↑i : Int).tmod (2 : Int))).fst
 ((RL.el (↑(i % (2 : Nat)) : Int).toNat (0 : Nat)).el ((↑i : Int).tmod (2 : Int)).toNat
 (0 : Nat)).toI ||
 hasR
 (stpR RL (if i % (2 : Nat) = (0 : Nat) then (1 : Int) else (2 : Int))
 ((↑i : Int).tmod (2 : Int))).fst
 (IntKind.i64.wrap
 ((1 : Int) -
 ((RL.el (↑(i % (2 : Nat)) : Int).toNat (0 : Nat)).el ((↑i : Int).tmod (2 : Int)).toNat
 (0 : Nat)).toI))) =
 false ∧
 True →
 (sndD (2 : Int) (cS (szP n) v i).snd ((↑i : Int).tmod (2 : Int))
 (ofLo (IntKind.i64.wrap (v.el (↑i : Int).toNat (0 : Nat)).toI)
 (IntKind.i64.wrap (v.el (↑i : Int).toNat (0 : Nat)).toI),
 ofHi (IntKind.i64.wrap (v.el (↑i : Int).toNat (0 : Nat)).toI)
 (IntKind.i64.wrap (v.el (↑i : Int).toNat (0 : Nat)).toI))).len ≤
 (8796093022208 : Nat)) ∧
 (((stpR RL (if i % (2 : Nat) = (0 : Nat) then (1 : Int) else (2 : Int))
 ((↑i : Int).tmod (2 : Int))).snd ||
 !(stpR RL (if i % (2 : Nat) = (0 : Nat) then (1 : Int) else (2 : Int))
 (IntKind.i64.wrap ((1 : Int) - (↑i : Int).tmod (2 : Int)))).snd ||
 !hasR
 (stpR RL (if i % (2 : Nat) = (0 : Nat) then (1 : Int) else (2 : Int))
 ((↑i : Int).tmod (2 : Int))).fst
 ((RL.el (↑(i % (2 : Nat)) : Int).toNat (0 : Nat)).el ((↑i : Int).tmod (2 : Int)).toNat
 (0 : Nat)).toI ||
 hasR
 (stpR RL (if i % (2 : Nat) = (0 : Nat) then (1 : Int) else (2 : Int))
 ((↑i : Int).tmod (2 : Int))).fst
 (IntKind.i64.wrap
 ((1 : Int) -
 ((RL.el (↑(i % (2 : Nat)) : Int).toNat (0 : Nat)).el ((↑i : Int).tmod (2 : Int)).toNat
 (0 : Nat)).toI)) ||
 !hasQ
 (sndL (szP n) (2 : Int) ((cS (szP n) v i).fst.fst, (cS (szP n) v i).fst.snd)
 (cS (szP n) v i).snd ((↑i : Int).tmod (2 : Int))
 (ofLo (IntKind.i64.wrap (v.el (↑i : Int).toNat (0 : Nat)).toI)
 (IntKind.i64.wrap (v.el (↑i : Int).toNat (0 : Nat)).toI),
 ofHi (IntKind.i64.wrap (v.el (↑i : Int).toNat (0 : Nat)).toI)
 (IntKind.i64.wrap (v.el (↑i : Int).toNat (0 : Nat)).toI))).fst
 (sndL (szP n) (2 : Int) ((cS (szP n) v i).fst.fst, (cS (szP n) v i).fst.snd)
 (cS (szP n) v i).snd ((↑i : Int).tmod (2 : Int))
 (ofLo (IntKind.i64.wrap (v.el (↑i : Int).toNat (0 : Nat)).toI)
 (IntKind.i64.wrap (v.el (↑i : Int).toNat (0 : Nat)).toI),
 ofHi (IntKind.i64.wrap (v.el (↑i : Int).toNat (0 : Nat)).toI)
 (IntKind.i64.wrap (v.el (↑i : Int).toNat (0 : Nat)).toI))).snd
 (sndD (2 : Int) (cS (szP n) v i).snd ((↑i : Int).tmod (2 : Int))
 (ofLo (IntKind.i64.wrap (v.el (↑i : Int).toNat (0 : Nat)).toI)
 (IntKind.i64.wrap (v.el (↑i : Int).toNat (0 : Nat)).toI),
 ofHi (IntKind.i64.wrap (v.el (↑i : Int).toNat (0 : Nat)).toI)
 (IntKind.i64.wrap (v.el (↑i : Int).toNat (0 : Nat)).toI)))
 ((((D.l []).app
 ((mgV v i (min i ((szP n).toNat + (1 : Nat)))).sub
 (min i ((szP n).toNat + (1 : Nat)) - min i (szP n).toNat)
 (min i ((szP n).toNat + (1 : Nat)) - min i (szP n).toNat +
 min i (szP n).toNat))).app
 ((D.l
 [[D.i ((↑i : Int).tmod (2 : Int)),
 D.i (IntKind.i64.wrap (v.el (↑i : Int).toNat (0 : Nat)).toI)]]).sub
 (0 : Nat) ((0 : Nat) + (1 : Nat)))).sub
 (nat_lit 1)
 (nat_lit 1 +
 ((0 : Nat) +
 ((mgV v i (min i ((szP n).toNat + (1 : Nat)))).sub
 (min i ((szP n).toNat + (1 : Nat)) - min i (szP n).toNat)
 (min i ((szP n).toNat + (1 : Nat)) - min i (szP n).toNat +
 min i (szP n).toNat)).len +
 ((D.l
 [[D.i ((↑i : Int).tmod (2 : Int)),
 D.i (IntKind.i64.wrap (v.el (↑i : Int).toNat (0 : Nat)).toI)]]).sub
 (0 : Nat) ((0 : Nat) + (1 : Nat))).len -
 nat_lit 1)))) =
 true →
 false = true) ∧
 (((stpR RL (if i % (2 : Nat) = (0 : Nat) then (1 : Int) else (2 : Int))
 ((↑i : Int).tmod (2 : Int))).snd ||
 !(stpR RL (if i % (2 : Nat) = (0 : Nat) then (1 : Int) else (2 : Int))
 (IntKind.i64.wrap ((1 : Int) - (↑i : Int).tmod (2 : Int)))).snd ||
 !hasR
 (stpR RL (if i % (2 : Nat) = (0 : Nat) then (1 : Int) else (2 : Int))
 ((↑i : Int).tmod (2 : Int))).fst
 ((RL.el (↑(i % (2 : Nat)) : Int).toNat (0 : Nat)).el ((↑i : Int).tmod (2 : Int)).toNat
 (0 : Nat)).toI ||
 hasR
 (stpR RL (if i % (2 : Nat) = (0 : Nat) then (1 : Int) else (2 : Int))
 ((↑i : Int).tmod (2 : Int))).fst
 (IntKind.i64.wrap
 ((1 : Int) -
 ((RL.el (↑(i % (2 : Nat)) : Int).toNat (0 : Nat)).el ((↑i : Int).tmod (2 : Int)).toNat
 (0 : Nat)).toI)) ||
 !hasQ
 (sndL (szP n) (2 : Int) ((cS (szP n) v i).fst.fst, (cS (szP n) v i).fst.snd)
 (cS (szP n) v i).snd ((↑i : Int).tmod (2 : Int))
 (ofLo (IntKind.i64.wrap (v.el (↑i : Int).toNat (0 : Nat)).toI)
 (IntKind.i64.wrap (v.el (↑i : Int).toNat (0 : Nat)).toI),
 ofHi (IntKind.i64.wrap (v.el (↑i : Int).toNat (0 : Nat)).toI)
 (IntKind.i64.wrap (v.el (↑i : Int).toNat (0 : Nat)).toI))).fst
 (sndL (szP n) (2 : Int) ((cS (szP n) v i).fst.fst, (cS (szP n) v i).fst.snd)
 (cS (szP n) v i).snd ((↑i : Int).tmod (2 : Int))
 (ofLo (IntKind.i64.wrap (v.el (↑i : Int).toNat (0 : Nat)).toI)
 (IntKind.i64.wrap (v.el (↑i : Int).toNat (0 : Nat)).toI),
 ofHi (IntKind.i64.wrap (v.el (↑i : Int).toNat (0 : Nat)).toI)
 (IntKind.i64.wrap (v.el (↑i : Int).toNat (0 : Nat)).toI))).snd
 (sndD (2 : Int) (cS (szP n) v i).snd ((↑i : Int).tmod (2 : Int))
 (ofLo (IntKind.i64.wrap (v.el (↑i : Int).toNat (0 : Nat)).toI)
 (IntKind.i64.wrap (v.el (↑i : Int).toNat (0 : Nat)).toI),
 ofHi (IntKind.i64.wrap (v.el (↑i : Int).toNat (0 : Nat)).toI)
 (IntKind.i64.wrap (v.el (↑i : Int).toNat (0 : Nat)).toI)))
 ((((D.l []).app
 ((mgV v i (min i ((szP n).toNat + (1 : Nat)))).sub
 (min i ((szP n).toNat + (1 : Nat)) - min i (szP n).toNat)
 (min i ((szP n).toNat + (1 : Nat)) - min i (szP n).toNat +
 min i (szP n).toNat))).app
 ((D.l
 [[D.i ((↑i : Int).tmod (2 : Int)),
 D.i (IntKind.i64.wrap (v.el (↑i : Int).toNat (0 : Nat)).toI)]]).sub
 (0 : Nat) ((0 : Nat) + (1 : Nat)))).sub
 (nat_lit 1)
 (nat_lit 1 +
 ((0 : Nat) +
 ((mgV v i (min i ((szP n).toNat + (1 : Nat)))).sub
 (min i ((szP n).toNat + (1 : Nat)) - min i (szP n).toNat)
 (min i ((szP n).toNat + (1 : Nat)) - min i (szP n).toNat +
 min i (szP n).toNat)).len +
 ((D.l
 [[D.i ((↑i : Int).tmod (2 : Int)),
 D.i (IntKind.i64.wrap (v.el (↑i : Int).toNat (0 : Nat)).toI)]]).sub
 (0 : Nat) ((0 : Nat) + (1 : Nat))).len -
 nat_lit 1)))) =
 false →
 ∃ (j : Nat),
 j.le (min v.len (40 : Nat)) ∧
 min v.len (40 : Nat) + (1 : Nat) - j < min v.len (40 : Nat) + (1 : Nat) - i ∧
 IntKind.i64.wrap ((↑i : Int) + (1 : Int)) = (↑j : Int) ∧
 ((stpR RL (if i % (2 : Nat) = (0 : Nat) then (1 : Int) else (2 : Int))
 ((↑i : Int).tmod (2 : Int))).fst =
 if j % (2 : Nat) = (0 : Nat) then (1 : Int) else (2 : Int)) ∧
 ((RL.el (↑(i % (2 : Nat)) : Int).toNat (0 : Nat)).el ((↑i : Int).tmod (2 : Int)).toNat
 (0 : Nat)).toI =
 (↑(j % (2 : Nat)) : Int) ∧
 nat_lit 1 = min j ((szP n).toNat + (1 : Nat)) - min j (szP n).toNat ∧
 (0 : Nat) +
 ((mgV v i (min i ((szP n).toNat + (1 : Nat)))).sub
 (min i ((szP n).toNat + (1 : Nat)) - min i (szP n).toNat)
 (min i ((szP n).toNat + (1 : Nat)) - min i (szP n).toNat +
 min i (szP n).toNat)).len +
 ((D.l
 [[D.i ((↑i : Int).tmod (2 : Int)),
 D.i (IntKind.i64.wrap (v.el (↑i : Int).toNat (0 : Nat)).toI)]]).sub
 (0 : Nat) ((0 : Nat) + (1 : Nat))).len -
 nat_lit 1 =
 min j (szP n).toNat ∧
 v.rows = v.rows ∧
 false = false ∧
 (sndL (szP n) (2 : Int) ((cS (szP n) v i).fst.fst, (cS (szP n) v i).fst.snd)
 (cS (szP n) v i).snd ((↑i : Int).tmod (2 : Int))
 (ofLo (IntKind.i64.wrap (v.el (↑i : Int).toNat (0 : Nat)).toI)
 (IntKind.i64.wrap (v.el (↑i : Int).toNat (0 : Nat)).toI),
 ofHi (IntKind.i64.wrap (v.el (↑i : Int).toNat (0 : Nat)).toI)
 (IntKind.i64.wrap (v.el (↑i : Int).toNat (0 : Nat)).toI))).fst =
 (cS (szP n) v j).fst.fst ∧
 (sndL (szP n) (2 : Int) ((cS (szP n) v i).fst.fst, (cS (szP n) v i).fst.snd)
 (cS (szP n) v i).snd ((↑i : Int).tmod (2 : Int))
 (ofLo (IntKind.i64.wrap (v.el (↑i : Int).toNat (0 : Nat)).toI)
 (IntKind.i64.wrap (v.el (↑i : Int).toNat (0 : Nat)).toI),
 ofHi (IntKind.i64.wrap (v.el (↑i : Int).toNat (0 : Nat)).toI)
 (IntKind.i64.wrap (v.el (↑i : Int).toNat (0 : Nat)).toI))).snd =
 (cS (szP n) v j).fst.snd ∧
 (sndD (2 : Int) (cS (szP n) v i).snd ((↑i : Int).tmod (2 : Int))
 (ofLo (IntKind.i64.wrap (v.el (↑i : Int).toNat (0 : Nat)).toI)
 (IntKind.i64.wrap (v.el (↑i : Int).toNat (0 : Nat)).toI),
 ofHi (IntKind.i64.wrap (v.el (↑i : Int).toNat (0 : Nat)).toI)
 (IntKind.i64.wrap (v.el (↑i : Int).toNat (0 : Nat)).toI))).rows =
 (cS (szP n) v j).snd.rows ∧
 [] ++
 List.drop (min i ((szP n).toNat + (1 : Nat)) - min i (szP n).toNat)
 (List.take
 (min i ((szP n).toNat + (1 : Nat)) - min i (szP n).toNat +
 min i (szP n).toNat)
 (List.map
 (fun (j : Nat) =>
 [D.i
 (↑((i - min i ((szP n).toNat + (1 : Nat)) + j) %
 (2 : Nat)) :
 Int),
 D.i
 (v.el (i - min i ((szP n).toNat + (1 : Nat)) + j)
 (0 : Nat)).toI])
 (List.range (min i ((szP n).toNat + (1 : Nat)))))) ++
 List.drop (0 : Nat)
 (List.take ((0 : Nat) + (1 : Nat))
 [[D.i ((↑i : Int).tmod (2 : Int)),
 D.i
 (IntKind.i64.wrap
 (v.el (↑i : Int).toNat (0 : Nat)).toI)]]) =
 List.map
 (fun (j_1 : Nat) =>
 [D.i
 (↑((j - min j ((szP n).toNat + (1 : Nat)) + j_1) % (2 : Nat)) :
 Int),
 D.i
 (v.el (j - min j ((szP n).toNat + (1 : Nat)) + j_1)
 (0 : Nat)).toI])
 (List.range (min j ((szP n).toNat + (1 : Nat)))) ∧
 (0 : Int) = (0 : Int) ∧
 szP n = szP n ∧
 (0 : Int) = (0 : Int) ∧
 (1 : Int) = (1 : Int) ∧
 (2 : Int) = (2 : Int) ∧
 [[D.l [[D.i (1 : Int)], [D.i (-1 : Int)]]],
 [D.l [[D.i (-1 : Int)], [D.i (0 : Int)]]]] =
 [[D.l [[D.i (1 : Int)], [D.i (-1 : Int)]]],
 [D.l [[D.i (-1 : Int)], [D.i (0 : Int)]]]])) ∧
 (decide
 ((↑((0 : Nat) +
 ((mgV v i (min i ((szP n).toNat + (1 : Nat)))).sub
 (min i ((szP n).toNat + (1 : Nat)) - min i (szP n).toNat)
 (min i ((szP n).toNat + (1 : Nat)) - min i (szP n).toNat + min i (szP n).toNat)).len +
 ((D.l
 [[D.i ((↑i : Int).tmod (2 : Int)),
 D.i (IntKind.i64.wrap (v.el (↑i : Int).toNat (0 : Nat)).toI)]]).sub
 (0 : Nat) ((0 : Nat) + (1 : Nat))).len) :
 Int) >
 szP n) =
 false →
 (((stpR RL (if i % (2 : Nat) = (0 : Nat) then (1 : Int) else (2 : Int)) ((↑i : Int).tmod (2 : Int))).snd ||
 !(stpR RL (if i % (2 : Nat) = (0 : Nat) then (1 : Int) else (2 : Int))
 (IntKind.i64.wrap ((1 : Int) - (↑i : Int).tmod (2 : Int)))).snd ||
 !hasR
 (stpR RL (if i % (2 : Nat) = (0 : Nat) then (1 : Int) else (2 : Int))
 ((↑i : Int).tmod (2 : Int))).fst
 ((RL.el (↑(i % (2 : Nat)) : Int).toNat (0 : Nat)).el ((↑i : Int).tmod (2 : Int)).toNat
 (0 : Nat)).toI ||
 hasR
 (stpR RL (if i % (2 : Nat) = (0 : Nat) then (1 : Int) else (2 : Int)) ((↑i : Int).tmod (2 : Int))).fst
 (IntKind.i64.wrap
 ((1 : Int) -
 ((RL.el (↑(i % (2 : Nat)) : Int).toNat (0 : Nat)).el ((↑i : Int).tmod (2 : Int)).toNat
 (0 : Nat)).toI))) =
 false ∧
 True →
 nat_lit 0 +
 ((0 : Nat) +
 ((mgV v i (min i ((szP n).toNat + (1 : Nat)))).sub
 (min i ((szP n).toNat + (1 : Nat)) - min i (szP n).toNat)
 (min i ((szP n).toNat + (1 : Nat)) - min i (szP n).toNat + min i (szP n).toNat)).len +
 ((D.l
 [[D.i ((↑i : Int).tmod (2 : Int)),
 D.i (IntKind.i64.wrap (v.el (↑i : Int).toNat (0 : Nat)).toI)]]).sub
 (0 : Nat) ((0 : Nat) + (1 : Nat))).len) ≤
 (((D.l []).app
 ((mgV v i (min i ((szP n).toNat + (1 : Nat)))).sub
 (min i ((szP n).toNat + (1 : Nat)) - min i (szP n).toNat)
 (min i ((szP n).toNat + (1 : Nat)) - min i (szP n).toNat + min i (szP n).toNat))).app
 ((D.l
 [[D.i ((↑i : Int).tmod (2 : Int)),
 D.i (IntKind.i64.wrap (v.el (↑i : Int).toNat (0 : Nat)).toI)]]).sub
 (0 : Nat) ((0 : Nat) + (1 : Nat)))).len) ∧
 (((stpR RL (if i % (2 : Nat) = (0 : Nat) then (1 : Int) else (2 : Int)) ((↑i : Int).tmod (2 : Int))).snd ||
 !(stpR RL (if i % (2 : Nat) = (0 : Nat) then (1 : Int) else (2 : Int))
 (IntKind.i64.wrap ((1 : Int) - (↑i : Int).tmod (2 : Int)))).snd ||
 !hasR
 (stpR RL (if i % (2 : Nat) = (0 : Nat) then (1 : Int) else (2 : Int))
 ((↑i : Int).tmod (2 : Int))).fst
 ((RL.el (↑(i % (2 : Nat)) : Int).toNat (0 : Nat)).el ((↑i : Int).tmod (2 : Int)).toNat
 (0 : Nat)).toI ||
 hasR
 (stpR RL (if i % (2 : Nat) = (0 : Nat) then (1 : Int) else (2 : Int))
 ((↑i : Int).tmod (2 : Int))).fst
 (IntKind.i64.wrap
 ((1 : Int) -
 ((RL.el (↑(i % (2 : Nat)) : Int).toNat (0 : Nat)).el ((↑i : Int).tmod (2 : Int)).toNat
 (0 : Nat)).toI))) =
 false ∧
 True →
 ((((D.l []).app
 ((mgV v i (min i ((szP n).toNat + (1 : Nat)))).sub
 (min i ((szP n).toNat + (1 : Nat)) - min i (szP n).toNat)
 (min i ((szP n).toNat + (1 : Nat)) - min i (szP n).toNat + min i (szP n).toNat))).app
 ((D.l
 [[D.i ((↑i : Int).tmod (2 : Int)),
 D.i (IntKind.i64.wrap (v.el (↑i : Int).toNat (0 : Nat)).toI)]]).sub
 (0 : Nat) ((0 : Nat) + (1 : Nat)))).sub
 (nat_lit 0)
 (nat_lit 0 +
 ((0 : Nat) +
 ((mgV v i (min i ((szP n).toNat + (1 : Nat)))).sub
 (min i ((szP n).toNat + (1 : Nat)) - min i (szP n).toNat)
 (min i ((szP n).toNat + (1 : Nat)) - min i (szP n).toNat + min i (szP n).toNat)).len +
 ((D.l
 [[D.i ((↑i : Int).tmod (2 : Int)),
 D.i (IntKind.i64.wrap (v.el (↑i : Int).toNat (0 : Nat)).toI)]]).sub
 (0 : Nat) ((0 : Nat) + (1 : Nat))).len))).len ≤
 (8796093022208 : Nat)) ∧
 (((stpR RL (if i % (2 : Nat) = (0 : Nat) then (1 : Int) else (2 : Int)) ((↑i : Int).tmod (2 : Int))).snd ||
 !(stpR RL (if i % (2 : Nat) = (0 : Nat) then (1 : Int) else (2 : Int))
 (IntKind.i64.wrap ((1 : Int) - (↑i : Int).tmod (2 : Int)))).snd ||
 !hasR
 (stpR RL (if i % (2 : Nat) = (0 : Nat) then (1 : Int) else (2 : Int))
 ((↑i : Int).tmod (2 : Int))).fst
 ((RL.el (↑(i % (2 : Nat)) : Int).toNat (0 : Nat)).el ((↑i : Int).tmod (2 : Int)).toNat
 (0 : Nat)).toI ||
 hasR
 (stpR RL (if i % (2 : Nat) = (0 : Nat) then (1 : Int) else (2 : Int))
 ((↑i : Int).tmod (2 : Int))).fst
 (IntKind.i64.wrap
 ((1 : Int) -
 ((RL.el (↑(i % (2 : Nat)) : Int).toNat (0 : Nat)).el ((↑i : Int).tmod (2 : Int)).toNat
 (0 : Nat)).toI))) =
 false ∧
 True →
 (sndD (2 : Int) (cS (szP n) v i).snd ((↑i : Int).tmod (2 : Int))
 (ofLo (IntKind.i64.wrap (v.el (↑i : Int).toNat (0 : Nat)).toI)
 (IntKind.i64.wrap (v.el (↑i : Int).toNat (0 : Nat)).toI),
 ofHi (IntKind.i64.wrap (v.el (↑i : Int).toNat (0 : Nat)).toI)
 (IntKind.i64.wrap (v.el (↑i : Int).toNat (0 : Nat)).toI))).len ≤
 (8796093022208 : Nat)) ∧
 (((stpR RL (if i % (2 : Nat) = (0 : Nat) then (1 : Int) else (2 : Int)) ((↑i : Int).tmod (2 : Int))).snd ||
 !(stpR RL (if i % (2 : Nat) = (0 : Nat) then (1 : Int) else (2 : Int))
 (IntKind.i64.wrap ((1 : Int) - (↑i : Int).tmod (2 : Int)))).snd ||
 !hasR
 (stpR RL (if i % (2 : Nat) = (0 : Nat) then (1 : Int) else (2 : Int))
 ((↑i : Int).tmod (2 : Int))).fst
 ((RL.el (↑(i % (2 : Nat)) : Int).toNat (0 : Nat)).el ((↑i : Int).tmod (2 : Int)).toNat
 (0 : Nat)).toI ||
 hasR
 (stpR RL (if i % (2 : Nat) = (0 : Nat) then (1 : Int) else (2 : Int))
 ((↑i : Int).tmod (2 : Int))).fst
 (IntKind.i64.wrap
 ((1 : Int) -
 ((RL.el (↑(i % (2 : Nat)) : Int).toNat (0 : Nat)).el ((↑i : Int).tmod (2 : Int)).toNat
 (0 : Nat)).toI)) ||
 !hasQ
 (sndL (szP n) (2 : Int) ((cS (szP n) v i).fst.fst, (cS (szP n) v i).fst.snd)
 (cS (szP n) v i).snd ((↑i : Int).tmod (2 : Int))
 (ofLo (IntKind.i64.wrap (v.el (↑i : Int).toNat (0 : Nat)).toI)
 (IntKind.i64.wrap (v.el (↑i : Int).toNat (0 : Nat)).toI),
 ofHi (IntKind.i64.wrap (v.el (↑i : Int).toNat (0 : Nat)).toI)
 (IntKind.i64.wrap (v.el (↑i : Int).toNat (0 : Nat)).toI))).fst
 (sndL (szP n) (2 : Int) ((cS (szP n) v i).fst.fst, (cS (szP n) v i).fst.snd)
 (cS (szP n) v i).snd ((↑i : Int).tmod (2 : Int))
 (ofLo (IntKind.i64.wrap (v.el (↑i : Int).toNat (0 : Nat)).toI)
 (IntKind.i64.wrap (v.el (↑i : Int).toNat (0 : Nat)).toI),
 ofHi (IntKind.i64.wrap (v.el (↑i : Int).toNat (0 : Nat)).toI)
 (IntKind.i64.wrap (v.el (↑i : Int).toNat (0 : Nat)).toI))).snd
 (sndD (2 : Int) (cS (szP n) v i).snd ((↑i : Int).tmod (2 : Int))
 (ofLo (IntKind.i64.wrap (v.el (↑i : Int).toNat (0 : Nat)).toI)
 (IntKind.i64.wrap (v.el (↑i : Int).toNat (0 : Nat)).toI),
 ofHi (IntKind.i64.wrap (v.el (↑i : Int).toNat (0 : Nat)).toI)
 (IntKind.i64.wrap (v.el (↑i : Int).toNat (0 : Nat)).toI)))
 ((((D.l []).app
 ((mgV v i (min i ((szP n).toNat + (1 : Nat)))).sub
 (min i ((szP n).toNat + (1 : Nat)) - min i (szP n).toNat)
 (min i ((szP n).toNat + (1 : Nat)) - min i (szP n).toNat +
 min i (szP n).toNat))).app
 ((D.l
 [[D.i ((↑i : Int).tmod (2 : Int)),
 D.i (IntKind.i64.wrap (v.el (↑i : Int).toNat (0 : Nat)).toI)]]).sub
 (0 : Nat) ((0 : Nat) + (1 : Nat)))).sub
 (nat_lit 0)
 (nat_lit 0 +
 ((0 : Nat) +
 ((mgV v i (min i ((szP n).toNat + (1 : Nat)))).sub
 (min i ((szP n).toNat + (1 : Nat)) - min i (szP n).toNat)
 (min i ((szP n).toNat + (1 : Nat)) - min i (szP n).toNat +
 min i (szP n).toNat)).len +
 ((D.l
 [[D.i ((↑i : Int).tmod (2 : Int)),
 D.i (IntKind.i64.wrap (v.el (↑i : Int).toNat (0 : Nat)).toI)]]).sub
 (0 : Nat) ((0 : Nat) + (1 : Nat))).len)))) =
 true →
 false = true) ∧
 (((stpR RL (if i % (2 : Nat) = (0 : Nat) then (1 : Int) else (2 : Int))
 ((↑i : Int).tmod (2 : Int))).snd ||
 !(stpR RL (if i % (2 : Nat) = (0 : Nat) then (1 : Int) else (2 : Int))
 (IntKind.i64.wrap ((1 : Int) - (↑i : Int).tmod (2 : Int)))).snd ||
 !hasR
 (stpR RL (if i % (2 : Nat) = (0 : Nat) then (1 : Int) else (2 : Int))
 ((↑i : Int).tmod (2 : Int))).fst
 ((RL.el (↑(i % (2 : Nat)) : Int).toNat (0 : Nat)).el ((↑i : Int).tmod (2 : Int)).toNat
 (0 : Nat)).toI ||
 hasR
 (stpR RL (if i % (2 : Nat) = (0 : Nat) then (1 : Int) else (2 : Int))
 ((↑i : Int).tmod (2 : Int))).fst
 (IntKind.i64.wrap
 ((1 : Int) -
 ((RL.el (↑(i % (2 : Nat)) : Int).toNat (0 : Nat)).el ((↑i : Int).tmod (2 : Int)).toNat
 (0 : Nat)).toI)) ||
 !hasQ
 (sndL (szP n) (2 : Int) ((cS (szP n) v i).fst.fst, (cS (szP n) v i).fst.snd)
 (cS (szP n) v i).snd ((↑i : Int).tmod (2 : Int))
 (ofLo (IntKind.i64.wrap (v.el (↑i : Int).toNat (0 : Nat)).toI)
 (IntKind.i64.wrap (v.el (↑i : Int).toNat (0 : Nat)).toI),
 ofHi (IntKind.i64.wrap (v.el (↑i : Int).toNat (0 : Nat)).toI)
 (IntKind.i64.wrap (v.el (↑i : Int).toNat (0 : Nat)).toI))).fst
 (sndL (szP n) (2 : Int) ((cS (szP n) v i).fst.fst, (cS (szP n) v i).fst.snd)
 (cS (szP n) v i).snd ((↑i : Int).tmod (2 : Int))
 (ofLo (IntKind.i64.wrap (v.el (↑i : Int).toNat (0 : Nat)).toI)
 (IntKind.i64.wrap (v.el (↑i : Int).toNat (0 : Nat)).toI),
 ofHi (IntKind.i64.wrap (v.el (↑i : Int).toNat (0 : Nat)).toI)
 (IntKind.i64.wrap (v.el (↑i : Int).toNat (0 : Nat)).toI))).snd
 (sndD (2 : Int) (cS (szP n) v i).snd ((↑i : Int).tmod (2 : Int))
 (ofLo (IntKind.i64.wrap (v.el (↑i : Int).toNat (0 : Nat)).toI)
 (IntKind.i64.wrap (v.el (↑i : Int).toNat (0 : Nat)).toI),
 ofHi (IntKind.i64.wrap (v.el (↑i : Int).toNat (0 : Nat)).toI)
 (IntKind.i64.wrap (v.el (↑i : Int).toNat (0 : Nat)).toI)))
 ((((D.l []).app
 ((mgV v i (min i ((szP n).toNat + (1 : Nat)))).sub
 (min i ((szP n).toNat + (1 : Nat)) - min i (szP n).toNat)
 (min i ((szP n).toNat + (1 : Nat)) - min i (szP n).toNat +
 min i (szP n).toNat))).app
 ((D.l
 [[D.i ((↑i : Int).tmod (2 : Int)),
 D.i (IntKind.i64.wrap (v.el (↑i : Int).toNat (0 : Nat)).toI)]]).sub
 (0 : Nat) ((0 : Nat) + (1 : Nat)))).sub
 (nat_lit 0)
 (nat_lit 0 +
 ((0 : Nat) +
 ((mgV v i (min i ((szP n).toNat + (1 : Nat)))).sub
 (min i ((szP n).toNat + (1 : Nat)) - min i (szP n).toNat)
 (min i ((szP n).toNat + (1 : Nat)) - min i (szP n).toNat +
 min i (szP n).toNat)).len +
 ((D.l
 [[D.i ((↑i : Int).tmod (2 : Int)),
 D.i (IntKind.i64.wrap (v.el (↑i : Int).toNat (0 : Nat)).toI)]]).sub
 (0 : Nat) ((0 : Nat) + (1 : Nat))).len)))) =
 false →
 ∃ (j : Nat),
 j.le (min v.len (40 : Nat)) ∧
 min v.len (40 : Nat) + (1 : Nat) - j < min v.len (40 : Nat) + (1 : Nat) - i ∧
 IntKind.i64.wrap ((↑i : Int) + (1 : Int)) = (↑j : Int) ∧
 ((stpR RL (if i % (2 : Nat) = (0 : Nat) then (1 : Int) else (2 : Int))
 ((↑i : Int).tmod (2 : Int))).fst =
 if j % (2 : Nat) = (0 : Nat) then (1 : Int) else (2 : Int)) ∧
 ((RL.el (↑(i % (2 : Nat)) : Int).toNat (0 : Nat)).el ((↑i : Int).tmod (2 : Int)).toNat
 (0 : Nat)).toI =
 (↑(j % (2 : Nat)) : Int) ∧
 nat_lit 0 = min j ((szP n).toNat + (1 : Nat)) - min j (szP n).toNat ∧
 (0 : Nat) +
 ((mgV v i (min i ((szP n).toNat + (1 : Nat)))).sub
 (min i ((szP n).toNat + (1 : Nat)) - min i (szP n).toNat)
 (min i ((szP n).toNat + (1 : Nat)) - min i (szP n).toNat +
 min i (szP n).toNat)).len +
 ((D.l
 [[D.i ((↑i : Int).tmod (2 : Int)),
 D.i (IntKind.i64.wrap (v.el (↑i : Int).toNat (0 : Nat)).toI)]]).sub
 (0 : Nat) ((0 : Nat) + (1 : Nat))).len =
 min j (szP n).toNat ∧
 v.rows = v.rows ∧
 false = false ∧
 (sndL (szP n) (2 : Int) ((cS (szP n) v i).fst.fst, (cS (szP n) v i).fst.snd)
 (cS (szP n) v i).snd ((↑i : Int).tmod (2 : Int))
 (ofLo (IntKind.i64.wrap (v.el (↑i : Int).toNat (0 : Nat)).toI)
 (IntKind.i64.wrap (v.el (↑i : Int).toNat (0 : Nat)).toI),
 ofHi (IntKind.i64.wrap (v.el (↑i : Int).toNat (0 : Nat)).toI)
 (IntKind.i64.wrap (v.el (↑i : Int).toNat (0 : Nat)).toI))).fst =
 (cS (szP n) v j).fst.fst ∧
 (sndL (szP n) (2 : Int) ((cS (szP n) v i).fst.fst, (cS (szP n) v i).fst.snd)
 (cS (szP n) v i).snd ((↑i : Int).tmod (2 : Int))
 (ofLo (IntKind.i64.wrap (v.el (↑i : Int).toNat (0 : Nat)).toI)
 (IntKind.i64.wrap (v.el (↑i : Int).toNat (0 : Nat)).toI),
 ofHi (IntKind.i64.wrap (v.el (↑i : Int).toNat (0 : Nat)).toI)
 (IntKind.i64.wrap (v.el (↑i : Int).toNat (0 : Nat)).toI))).snd =
 (cS (szP n) v j).fst.snd ∧
 (sndD (2 : Int) (cS (szP n) v i).snd ((↑i : Int).tmod (2 : Int))
 (ofLo (IntKind.i64.wrap (v.el (↑i : Int).toNat (0 : Nat)).toI)
 (IntKind.i64.wrap (v.el (↑i : Int).toNat (0 : Nat)).toI),
 ofHi (IntKind.i64.wrap (v.el (↑i : Int).toNat (0 : Nat)).toI)
 (IntKind.i64.wrap (v.el (↑i : Int).toNat (0 : Nat)).toI))).rows =
 (cS (szP n) v j).snd.rows ∧
 [] ++
 List.drop (min i ((szP n).toNat + (1 : Nat)) - min i (szP n).toNat)
 (List.take
 (min i ((szP n).toNat + (1 : Nat)) - min i (szP n).toNat +
 min i (szP n).toNat)
 (List.map
 (fun (j : Nat) =>
 [D.i
 (↑((i - min i ((szP n).toNat + (1 : Nat)) + j) %
 (2 : Nat)) :
 Int),
 D.i
 (v.el (i - min i ((szP n).toNat + (1 : Nat)) + j)
 (0 : Nat)).toI])
 (List.range (min i ((szP n).toNat + (1 : Nat)))))) ++
 List.drop (0 : Nat)
 (List.take ((0 : Nat) + (1 : Nat))
 [[D.i ((↑i : Int).tmod (2 : Int)),
 D.i
 (IntKind.i64.wrap (v.el (↑i : Int).toNat (0 : Nat)).toI)]]) =
 List.map
 (fun (j_1 : Nat) =>
 [D.i
 (↑((j - min j ((szP n).toNat + (1 : Nat)) + j_1) % (2 : Nat)) :
 Int),
 D.i
 (v.el (j - min j ((szP n).toNat + (1 : Nat)) + j_1)
 (0 : Nat)).toI])
 (List.range (min j ((szP n).toNat + (1 : Nat)))) ∧
 (0 : Int) = (0 : Int) ∧
 szP n = szP n ∧
 (0 : Int) = (0 : Int) ∧
 (1 : Int) = (1 : Int) ∧
 (2 : Int) = (2 : Int) ∧
 [[D.l [[D.i (1 : Int)], [D.i (-1 : Int)]]],
 [D.l [[D.i (-1 : Int)], [D.i (0 : Int)]]]] =
 [[D.l [[D.i (1 : Int)], [D.i (-1 : Int)]]],
 [D.l [[D.i (-1 : Int)], [D.i (0 : Int)]]]]))) ∧
 ((decide ((↑i : Int) < (↑v.len : Int)) && decide ((↑i : Int) < (40 : Int))) = false →
 (true = true ∧ True → (cS (szP n) v i).snd.len ≤ (8796093022208 : Nat)) ∧
 (true = true ∧ True →
 itA RL (tgD (cS (szP n) v i).snd (cS (szP n) v i).snd.len) (3 : Nat) =
 itA RL (tgD (cS (szP n) v i).snd (cS (szP n) v i).snd.len) (2 : Nat)) ∧
 (true = true ∧ True → (tgD (cS (szP n) v i).snd (cS (szP n) v i).snd.len).len ≤ (1000000 : Nat)) ∧
 (decide ((↑v.len : Int) < (1 : Int)) = false ∧
 (true &&
 IntKind.u8.wrap
 (↑(BitVec.ofInt IntKind.u8.bits (itA RL (tgD (cS (szP n) v i).snd (cS (szP n) v i).snd.len) (2 : Nat)) &&&
 ~~~BitVec.ofInt IntKind.u8.bits (3 : Int)).toNat :
 Int) ==
 (0 : Int)) =
 true ∧
 True →
 (cS (szP n) v i).snd.len ≤ (8796093022208 : Nat)) ∧
 (decide ((↑v.len : Int) < (1 : Int)) = false ∧
 (true &&
 IntKind.u8.wrap
 (↑(BitVec.ofInt IntKind.u8.bits (itA RL (tgD (cS (szP n) v i).snd (cS (szP n) v i).snd.len) (2 : Nat)) &&&
 ~~~BitVec.ofInt IntKind.u8.bits (3 : Int)).toNat :
 Int) ==
 (0 : Int)) =
 true ∧
 True →
 itA RL (tgD (cS (szP n) v i).snd (cS (szP n) v i).snd.len) (3 : Nat) =
 itA RL (tgD (cS (szP n) v i).snd (cS (szP n) v i).snd.len) (2 : Nat)) ∧
 (decide ((↑v.len : Int) < (1 : Int)) = false ∧
 (true &&
 IntKind.u8.wrap
 (↑(BitVec.ofInt IntKind.u8.bits (itA RL (tgD (cS (szP n) v i).snd (cS (szP n) v i).snd.len) (2 : Nat)) &&&
 ~~~BitVec.ofInt IntKind.u8.bits (3 : Int)).toNat :
 Int) ==
 (0 : Int)) =
 true ∧
 True →
 (tgD (cS (szP n) v i).snd (cS (szP n) v i).snd.len).len ≤ (1000000 : Nat)) ∧
 (true &&
 IntKind.u8.wrap
 (↑(BitVec.ofInt IntKind.u8.bits (itA RL (tgD (cS (szP n) v i).snd (cS (szP n) v i).snd.len) (2 : Nat)) &&&
 ~~~BitVec.ofInt IntKind.u8.bits (3 : Int)).toNat :
 Int) ==
 (0 : Int) &&
 (decide ((↑v.len : Int) < (1 : Int)) ||
 hasR (itA RL (tgD (cS (szP n) v i).snd (cS (szP n) v i).snd.len) (2 : Nat)) (1 : Int))) =
 true)) (by kernel_rfl) ?_
    intro hv
    have hz := szP_in n
    have lc : ∀ k, k ≤ v.len → (cS (szP n) v k).2.len = 2 := fun k hk => by rw [cS_eq hv k hk]; exact prD_len _ _
    refine ⟨⟨by decide, by decide, true, trivial, by decide, by decide, by decide, rfl, rfl, rfl, szP_wr n, rfl, rfl, rfl, rfl⟩, fun _ _ => ⟨⟨by omega, by omega⟩, ⟨0, Nat.zero_le _, ?_⟩, fun i hi => ?_⟩⟩
    · (repeat' apply And.intro) <;> first | rfl | trivial | (rw [Nat.zero_min]; done) | (rw [Nat.zero_min]; rfl)
    have hi : i ≤ min v.len 40 := hi
    have a1 : ∀ (k m : Nat), (D.l []).app (mgV v k m) = mgV v k m := fun _ _ => rfl
    have n1 : ∀ x : List D, (D.l [x]).sub 0 (0 + 1) = D.l [x] := fun _ => rfl
    have l2 : ∀ x : List D, (D.l [x]).len = 1 := fun _ => rfl
    have l0 : (D.l []).len = 0 := rfl
    refine ⟨fun h => ?_, fun h => ?_⟩
    · have hl : i < v.len ∧ i < 40 := by simp at h; omega
      have hu := hv i hl.1
      have u1 : IntKind.i64.wrap (v.el i 0).toI = (v.el i 0).toI := wr _ (by omega)
      have s1 : (mgV v i (min i ((szP n).toNat + 1))).sub (min i ((szP n).toNat + 1) - min i (szP n).toNat) (min i ((szP n).toNat + 1) - min i (szP n).toNat + min i (szP n).toNat) = mgV v i (min i (szP n).toNat) := mg_sub v (by omega) (by omega)
      have p1 := mg_push v (k := i) (m := min i (szP n).toNat) (by omega)
      have m1 : min i (szP n).toNat + 1 = min (i + 1) ((szP n).toNat + 1) := by omega
      have hb : _ = false := bad_no i
      unfold badP at hb
      simp only [st_1, st_2] at hb
      have r1 : (((D.l []).app ((mgV v i (min i ((szP n).toNat + 1))).sub (min i ((szP n).toNat + 1) - min i (szP n).toNat) (min i ((szP n).toNat + 1) - min i (szP n).toNat + min i (szP n).toNat))).app ((D.l [[D.i ((i % 2 : Nat) : Int), D.i (v.el i 0).toI]]).sub 0 (0 + 1))).rows = (mgV v (i + 1) (min (i + 1) ((szP n).toNat + 1))).rows := by
        rw [← m1, ← p1, s1]; rfl
      have c1 : sndL (szP n) 2 ((cS (szP n) v i).1.1, (cS (szP n) v i).1.2) (cS (szP n) v i).2 ((i % 2 : Nat) : Int) (ofLo (v.el i 0).toI (v.el i 0).toI, ofHi (v.el i 0).toI (v.el i 0).toI) = (cS (szP n) v (i + 1)).1 := rfl
      have c2 : sndD 2 (cS (szP n) v i).2 ((i % 2 : Nat) : Int) (ofLo (v.el i 0).toI (v.el i 0).toI, ofHi (v.el i 0).toI (v.el i 0).toI) = (cS (szP n) v (i + 1)).2 := rfl
      have hq := mg_has (n := n) hv (k := i + 1) (by omega)
      simp only [Int.toNat_natCast, tm2, u1, s1, a1, n1, p1, l2, l0, mg_len, hb, c1, c2, lc i (by omega), lc (i + 1) (by omega), st_1, st_2, st_3, RL_len]
      refine ⟨by omega, by omega, by omega, by omega, by omega, by omega, by omega, by omega, by omega, by omega, by omega, fun o => ?_, fun o => ?_⟩
      · have o : ((0 + min i (szP n).toNat + 1 : Nat) : Int) > szP n := of_decide_eq_true o
        have s2 : (mgV v (i + 1) (min i (szP n).toNat + 1)).sub 1 (1 + (0 + min i (szP n).toNat + 1 - 1)) = mgV v (i + 1) (min (i + 1) (szP n).toNat) := by
          rw [show 0 + min i (szP n).toNat + 1 - 1 = min (i + 1) (szP n).toNat by omega]
          exact mg_sub v (by omega) (by omega)
        simp only [s2, hq, mg_len]
        refine ⟨by omega, fun _ => by omega, fun _ => by omega, fun _ => by omega, fun e => (by simp at e), fun _ => ⟨i + 1, by show i + 1 ≤ min v.len 40; omega, by omega, wr _ (by omega), rfl, rfl, by omega, by omega, trivial, trivial, rfl, rfl, rfl, r1, trivial, trivial, trivial, trivial, trivial, trivial⟩⟩
      · have o : ¬ ((0 + min i (szP n).toNat + 1 : Nat) : Int) > szP n := of_decide_eq_false o
        have s2 : (mgV v (i + 1) (min i (szP n).toNat + 1)).sub 0 (0 + (0 + min i (szP n).toNat + 1)) = mgV v (i + 1) (min (i + 1) (szP n).toNat) := by
          rw [show 0 + min i (szP n).toNat + 1 = min (i + 1) (szP n).toNat by omega]
          exact mg_sub v (by omega) (by omega)
        simp only [s2, hq, mg_len]
        refine ⟨fun _ => by omega, fun _ => by omega, fun _ => by omega, fun e => (by simp at e), fun _ => ⟨i + 1, by show i + 1 ≤ min v.len 40; omega, by omega, wr _ (by omega), rfl, rfl, by omega, by omega, trivial, trivial, rfl, rfl, rfl, r1, trivial, trivial, trivial, trivial, trivial, trivial⟩⟩
    · have hl : i = v.len ∨ i = 40 := by simp at h; omega
      have t := tg_eq (n := n) hv (k := i) (by omega)
      obtain ⟨t1, t2, t3, t4⟩ := tg_fix i
      rw [t]
      simp only [lc i (by omega), t1, t2]
      refine ⟨fun _ => by omega, fun _ => trivial, fun _ => by omega, fun _ => by omega, fun _ => trivial, fun _ => by omega, ?_⟩
      by_cases hv0 : v.len = 0
      · simp [hv0]
      · rw [t3 (by omega)]; simp
  · trivial
end Go.Proofs.Ytdagadcflignfaa.Sx.Z
