/-
  The laws' apply and zerosOf.
-/
import Derived.Test.YtmdoafhohflhdaaYf
import Derived.Test.YtmdoafhohflhdaaZn
namespace Go.Proofs.Ytmdoafhohflhdaa.Sx.Z
open Go.RowKit
def xA (n : Int) (d : D) (k : Nat) : Int := IntKind.i64.wrap ((IntKind.u64.wrap (d.el k 1).toI).tmod (IntKind.u64.wrap n))
def yA (n : Int) (d : D) (k : Nat) : Int := IntKind.i64.wrap (IntKind.i64.wrap ((IntKind.u64.wrap (d.el k 2).toI).tmod (IntKind.u64.wrap (IntKind.i64.wrap (n + 1)))) - 1)
def bA (d : D) (k : Nat) : Int := IntKind.i64.wrap (IntKind.i32.wrap (d.el k 3).toI)
def wA (d : D) (k : Nat) : Int := IntKind.i64.wrap ((IntKind.u64.wrap (d.el k 0).toI).tmod 5)
def actW (n w x y b : Int) (z : Zs) : Zs := if w = 0 then (if x ≠ y then bndZ n x y b z else z) else if w = 1 then (if x ≠ y then bndZ n y x b z else z) else if w = 2 then fgZ n x z else if w = 3 ∨ w = 4 then copyZ n x y b z else z
def actStep (n : Int) (d : D) (k : Nat) (z : Zs) : Zs := actW n (wA d k) (xA n d k) (yA n d k) (bA d k) z
def actsP (n : Int) (d : D) (z : Zs) : Nat → Zs
  | 0 => z
  | k + 1 => if n = 0 then actsP n d z k else actStep n d k (actsP n d z k)
def actsZ (n : Int) (d : D) (z : Zs) : Zs := actsP n d z (min d.len 20)
theorem actsP_zero {d : D} {z : Zs} : ∀ k, actsP 0 d z k = z
  | 0 => rfl
  | k + 1 => (if_pos rfl).trans (actsP_zero k)
theorem good_act {n w x y b : Int} {z : Zs} (h : Good n z) : Good n (actW n w x y b z) := by
  unfold actW
  split
  · split
    · exact good_bnd h _ _ _
    · exact h
  · split
    · split
      · exact good_bnd h _ _ _
      · exact h
    · split
      · exact good_fg h _
      · split
        · exact good_copy h _ _ _
        · exact h
theorem good_acts {n : Int} {d : D} {z : Zs} (h : Good n z) : ∀ k, Good n (actsP n d z k)
  | 0 => h
  | k + 1 => by
    unfold actsP
    split
    · exact good_acts h k
    · exact good_act (good_acts h k)
theorem good_actsZ {n : Int} {d : D} {z : Zs} (h : Good n z) : Good n (actsZ n d z) := good_acts h _
theorem xA_in {n : Int} (h : 1 ≤ n ∧ n ≤ 6) (d : D) (k : Nat) : 0 ≤ xA n d k ∧ xA n d k < n := px_in _ n (by omega)
theorem yA_in {n : Int} (h : 1 ≤ n ∧ n ≤ 6) (d : D) (k : Nat) : -1 ≤ yA n d k ∧ yA n d k < n := by
  unfold yA
  rw [wr (n + 1) (by omega)]
  have := px_in (d.el k 2).toI (n + 1) (by omega)
  rw [wr (_ - 1) (by omega)]
  omega
theorem bA_in (d : D) (k : Nat) : -2147483648 ≤ bA d k ∧ bA d k ≤ 2147483647 := by
  unfold bA
  have : -2147483648 ≤ IntKind.i32.wrap (d.el k 3).toI ∧ IntKind.i32.wrap (d.el k 3).toI ≤ 2147483647 := by
    rw [IntKind.wrap_i32]; omega
  rw [wr _ (by omega)]
  exact this
theorem isVar_of {n x : Int} (hn : 0 ≤ n ∧ n ≤ 6) (h : 0 ≤ x ∧ x < n) : isVarP n x = true := by
  unfold isVarP; rw [rows_n hn]; simp only [Bool.and_eq_true, decide_eq_true_eq]; omega
theorem isEnd_of {n x : Int} (hn : 0 ≤ n ∧ n ≤ 6) (h : -1 ≤ x ∧ x < n) : isEndP n x = true := by
  unfold isEndP isVarP; rw [rows_n hn]; simp only [Bool.or_eq_true, Bool.and_eq_true, decide_eq_true_eq, beq_iff_eq]; omega
def zoP (n : Int) : Nat → Zs
  | 0 => (false, topF n)
  | x + 1 => bndZ n (-1) x 0 (bndZ n x (-1) 0 (zoP n x))
theorem zoP_good {n : Int} (hn : 0 ≤ n ∧ n ≤ 6) : ∀ k, Good n (zoP n k)
  | 0 => by have := good_top n; rwa [show topN n = n by unfold topN; omega] at this
  | k + 1 => good_bnd (good_bnd (zoP_good hn k) _ _ _) _ _ _
theorem zoP_pt {n : Int} (hn : 0 ≤ n ∧ n ≤ 6) (v : Nat → Int) : ∀ k : Nat, (k : Int) ≤ n → (Pt n (zoP n k) v ↔ Pt n (false, topF n) v ∧ ∀ i, i < k → v (i + 1) = 0)
  | 0, _ => ⟨fun h => ⟨h, fun i hi => absurd hi (Nat.not_lt_zero i)⟩, fun h => h.1⟩
  | k + 1, hk => by
    have g := zoP_good hn k
    have ex := isEnd_of (x := (k : Int)) hn (by omega)
    show Pt n (bndZ n (-1) k 0 (bndZ n k (-1) 0 (zoP n k))) v ↔ _
    rw [bnd_pt (good_bnd g _ _ _) (isEnd_nought n) ex, bnd_pt g ex (isEnd_nought n), zoP_pt hn v k (by omega)]
    have e1 : ((k : Int) + 1).toNat = k + 1 := by omega
    have e0 : ((-1 : Int) + 1).toNat = 0 := rfl
    rw [e1, e0]
    constructor
    · rintro ⟨⟨⟨h1, h2⟩, h3⟩, h4⟩
      refine ⟨h1, fun i hi => ?_⟩
      by_cases h : i < k
      · exact h2 i h
      · rw [show i = k by omega]; have := h1.2.1; omega
    · rintro ⟨h1, h2⟩
      have := h1.2.1
      have h3 := h2 k (by omega)
      exact ⟨⟨⟨h1, fun i hi => h2 i (by omega)⟩, by omega⟩, by omega⟩
theorem zo_same {n : Int} (hn : 0 ≤ n ∧ n ≤ 6) : Same (zoP n n.toNat) (false, fun _ => 0) := by
  have hR := R_le n
  have hRn := R_n hn
  have ht : topN n = n := by unfold topN; omega
  refine good_ext (zoP_good hn _) (good_none hn false) fun v => ?_
  rw [zoP_pt hn v _ (by omega)]
  constructor
  · rintro ⟨h1, h2⟩
    have hv : ∀ i, i < R n → v i = 0 := fun i hi => by
      by_cases h : i = 0
      · rw [h]; exact h1.2.1
      · have := h2 (i - 1) (by omega); rwa [show i - 1 + 1 = i by omega] at this
    exact ⟨rfl, h1.2.1, fun i j hi hj => by rw [hv i hi, hv j hj]; exact Int.le_refl _⟩
  · rintro ⟨_, v0, hp⟩
    have hv : ∀ i, i < R n → v i = 0 := fun i hi => by
      have a := hp i 0 hi (by omega)
      have b := hp 0 i (by omega) hi
      dsimp only at a b
      omega
    refine ⟨?_, fun i hi => hv (i + 1) (by omega)⟩
    have := pt_top (n := n) (v := v) v0 (fun i hi => by rw [ht] at hi; rw [hv i hi]; omega)
    rwa [ht] at this
def zerosOfS : FSpec := fun ds _ => match ds with
  | [.i n] => some { val := .one (.agg [.c (.int .i64 (.sym (n))), .c (.bool (.sym (false))), .ints .i64 (.lit 49) (fun _ => 0)]), vc := [0 ≤ n ∧ n ≤ 6] }
  | _ => none
def zerosOfC : Con := con [iA] zerosOfS
theorem zerosOf_ok : ConOK Try.prog 32 zerosOfC := by
  refine fn_ob tt_ok mixed Try.func32 rfl (fun _ _ => by kernel_rfl) (A := fun ds => ⟨fun _ => Cons.of [(13, rtopC), (15, rboundC)], fun k => match k, ds with | 3, [.i n] => some { ι := Nat, pre := fun _ i => i ≤ n.toNat, μ := fun i => 9 - i, st := fun s i => famR s [(4, .one (.sc (.int .i64 (.sym ((i : Nat))))))] [0, 2, 3] [(idOf s 3, .own 29 (zs (.sym n) (.sym (zoP n i).1) (zoP n i).2))] [2] } | _, _ => none, fun _ => none⟩) (fun _ _ => (cons_cons rtop_ok (cons_cons rbound_ok cons_nil))) (by kernel_rfl) ?_
  intro ds fr
  unfold zerosOfS
  split
  · rename_i n
    refine kmp (q := (0 : Int) ≤ n ∧ n ≤ (6 : Int) →
 (∃ (i : Nat),
 i.le n.toNat ∧
 (0 : Int) = (↑i : Int) ∧
 n = n ∧
 topN n = n ∧
 false = (zoP n i).fst ∧
 (∀ (o : Nat), o < nat_lit 49 → topF n o = (zoP n i).snd o) ∧
 (0 : Int) = (0 : Int) ∧ false = false ∧ ∀ (o : Nat), o < nat_lit 49 → (0 : Int) = (0 : Int)) ∧
 ∀ (i : Nat),
 i.le n.toNat →
 (decide ((↑i : Int) < n) = true →
 Good n ((zoP n i).fst, (zoP n i).snd) ∧
 isEndP n (↑i : Int) = true ∧
 isEndP n (-1 : Int) = true ∧
 (↑i : Int) ≠ (-1 : Int) ∧
 (-4294967296 : Int) ≤ (0 : Int) ∧
 Good n
 ((bndZ n (↑i : Int) (-1 : Int) (0 : Int) ((zoP n i).fst, (zoP n i).snd)).fst,
 (bndZ n (↑i : Int) (-1 : Int) (0 : Int) ((zoP n i).fst, (zoP n i).snd)).snd) ∧
 isEndP n (-1 : Int) = true ∧
 isEndP n (↑i : Int) = true ∧
 (-1 : Int) ≠ (↑i : Int) ∧
 (-4294967296 : Int) ≤ (0 : Int) ∧
 ∃ (j : Nat),
 j.le n.toNat ∧
 (9 : Nat) - j < (9 : Nat) - i ∧
 IntKind.i64.wrap ((↑i : Int) + (1 : Int)) = (↑j : Int) ∧
 n = n ∧
 n = n ∧
 (bndZ n (-1 : Int) (↑i : Int) (0 : Int)
 ((bndZ n (↑i : Int) (-1 : Int) (0 : Int) ((zoP n i).fst, (zoP n i).snd)).fst,
 (bndZ n (↑i : Int) (-1 : Int) (0 : Int) ((zoP n i).fst, (zoP n i).snd)).snd)).fst =
 (zoP n j).fst ∧
 (∀ (o : Nat),
 o < nat_lit 49 →
 (bndZ n (-1 : Int) (↑i : Int) (0 : Int)
 ((bndZ n (↑i : Int) (-1 : Int) (0 : Int) ((zoP n i).fst, (zoP n i).snd)).fst,
 (bndZ n (↑i : Int) (-1 : Int) (0 : Int) ((zoP n i).fst, (zoP n i).snd)).snd)).snd
 o =
 (zoP n j).snd o) ∧
 (0 : Int) = (0 : Int) ∧ false = false ∧ ∀ (o : Nat), o < nat_lit 49 → (0 : Int) = (0 : Int)) ∧
 (decide ((↑i : Int) < n) = false → n = n ∧ (zoP n i).fst = false ∧ ∀ (o : Nat), o < nat_lit 49 → (zoP n i).snd o = (0 : Int))) (by kernel_rfl) ?_
    simp only [raw0, true_and, and_true, implies_true, Nat.mul_one, Int.toNat_natCast, c7, decide_eq_true_eq, decide_eq_false_iff_not, Nat.zero_add, forall_const, Nat.le_eq, at_iff, bne_iff_ne, bne_eq_false_iff_eq, and_self, and_self_left, Nat.reduceAdd]
    intro hn
    have ht : topN n = n := by unfold topN; omega
    have hz := zo_same hn
    refine ⟨⟨0, by omega, rfl, ht, rfl, fun _ _ => rfl⟩, fun i hi => ⟨fun h => ?_, fun h => ?_⟩⟩
    · have g := zoP_good hn i
      have ex := isEnd_of (x := (i : Int)) hn (by omega)
      exact ⟨g, ex, isEnd_nought n, by omega, by omega, good_bnd g _ _ _, isEnd_nought n, ex, by omega, by omega, i + 1, by omega, by omega, wr _ (by omega), rfl, fun _ _ => rfl⟩
    · rw [show i = n.toNat by omega]
      exact hz
  · trivial
def applyS : FSpec := fun ds _ => match ds with
  | [.i n, .b c, .f f, .i m, .b e, .f g, .d row] => some { val := .tup [.agg [.c (.int .i64 (.sym (n))), .c (.bool (.sym ((actsZ n row (c, f)).1))), .ints .i64 (.lit 49) ((actsZ n row (c, f)).2)], .agg [.c (.int .i64 (.sym (n))), .c (.bool (.sym ((actsZ n row (c, f)).1))), .ints .i64 (.lit 49) ((actsZ n row (c, f)).2)], .sc (.bool (.sym true))], vc := [Good n (c, f), m = n, e = c, ∀ o, o < 49 → g o = f o] }
  | _ => none
def applyC : Con := con [zA, zA, .sc (.rows 44)] applyS
theorem apply_ok : ConOK Try.prog 18 applyC := by
  refine fn_ob tt_ok mixed Try.func18 rfl (fun _ _ => by kernel_rfl) (A := fun ds => ⟨fun _ => Cons.of [(21, boundC), (22, forgetC), (23, copyC), (15, rboundC), (38, rforgetC), (39, rcopyC), (17, zfromC), (29, zrightC)], fun k => match k, ds with | 2, [.i n, .b c, .f f, .i m, .b e, .f g, .d row] => some { ι := Nat, pre := fun _ i => i ≤ row.len ∧ i ≤ 20, μ := fun i => 21 - i, st := fun s i => famR s [(9, .one (.sc (.int .i64 (.sym ((i : Nat))))))] [2, 3, 4, 6, 7] [(idOf s 3, .own 27 (zs (.sym n) (.sym (actsP n row (c, f) i).1) (actsP n row (c, f) i).2)), (idOf s 4, .own 29 (zs (.sym n) (.sym (actsP n row (c, f) i).1) (actsP n row (c, f) i).2))] [6, 7] } | _, _ => none, fun k => match k, ds with | 9, [.i n, .b c, .f f, .i m, .b e, .f g, .d row] => some { ι := Bool, pre := fun _ _ => True, μ := fun _ => 0, st := fun s _ => famR s [(11, .one (.sc (.int .i64 (.sym (xA n row (slotN s 9)))))), (12, .one (.sc (.int .i64 (.sym (yA n row (slotN s 9)))))), (13, .one (.sc (.int .i64 (.sym (bA row (slotN s 9)))))), (57, .one (.sc (.int .i64 (.sym (wA row (slotN s 9))))))] [2, 3, 4, 6, 7, 9] [(idOf s 3, .own 27 (zs (.sym n) (.sym (actsP n row (c, f) (slotN s 9)).1) (actsP n row (c, f) (slotN s 9)).2)), (idOf s 4, .own 29 (zs (.sym n) (.sym (actsP n row (c, f) (slotN s 9)).1) (actsP n row (c, f) (slotN s 9)).2))] [6, 7] } | 20, [.i n, .b c, .f f, .i m, .b e, .f g, .d row] => some { ι := Bool, pre := fun _ _ => True, μ := fun _ => 0, st := fun s _ => famR s [] [2, 3, 4, 6, 7, 9] [(idOf s 3, .own 27 (zs (.sym n) (.sym (actStep n row (slotN s 9) (actsP n row (c, f) (slotN s 9))).1) (actStep n row (slotN s 9) (actsP n row (c, f) (slotN s 9))).2)), (idOf s 4, .own 29 (zs (.sym n) (.sym (actStep n row (slotN s 9) (actsP n row (c, f) (slotN s 9))).1) (actStep n row (slotN s 9) (actsP n row (c, f) (slotN s 9))).2))] [6, 7] } | _, _ => none⟩) (fun _ _ => (cons_cons bound_ok (cons_cons forget_ok (cons_cons copy_ok (cons_cons rbound_ok (cons_cons rforget_ok (cons_cons rcopy_ok (cons_cons zfrom_ok (cons_cons zright_ok cons_nil))))))))) (by kernel_rfl) ?_
  intro ds fr
  unfold applyS
  split
  · rename_i n c f m e g row
    refine kmp (q := Good n (c, f) →
 m = n →
 e = c →
 (∀ (o : Nat), o < (49 : Nat) → g o = f o) →
 (∃ (i : Nat),
 (i ≤ row.len ∧ i ≤ (20 : Nat)) ∧
 (0 : Int) = (↑i : Int) ∧
 row.rows = row.rows ∧
 n = n ∧
 c = (actsP n row (c, f) i).fst ∧
 (∀ (o : Nat), o < nat_lit 49 → f o = (actsP n row (c, f) i).snd o) ∧
 m = n ∧
 e = (actsP n row (c, f) i).fst ∧
 (∀ (o : Nat), o < nat_lit 49 → g o = (actsP n row (c, f) i).snd o) ∧
 (0 : Int) = (0 : Int) ∧
 false = false ∧
 (∀ (o : Nat), o < nat_lit 49 → (0 : Int) = (0 : Int)) ∧
 (0 : Int) = (0 : Int) ∧ false = false ∧ ∀ (o : Nat), o < nat_lit 49 → (0 : Int) = (0 : Int)) ∧
 ∀ (i : Nat),
 i ≤ row.len ∧ i ≤ (20 : Nat) →
 ((decide ((↑i : Int) < (↑row.len : Int)) && decide ((↑i : Int) < (20 : Int))) = true →
 ((0 : Int) ≤ (↑i : Int) ∧ (↑i : Int) < (↑row.len : Int)) ∧
 ((n == (0 : Int)) = true →
 n = n ∧
 (actsP n row (c, f) i).fst = (actsZ n row (c, f)).fst ∧
 (∀ (o : Nat), o < nat_lit 49 → (actsP n row (c, f) i).snd o = (actsZ n row (c, f)).snd o) ∧
 n = n ∧
 (actsP n row (c, f) i).fst = (actsZ n row (c, f)).fst ∧
 (∀ (o : Nat), o < nat_lit 49 → (actsP n row (c, f) i).snd o = (actsZ n row (c, f)).snd o) ∧ true = true) ∧
 ((n == (0 : Int)) = false →
 IntKind.u64.wrap n ≠ (0 : Int) ∧
 IntKind.u64.wrap (IntKind.i64.wrap (n + (1 : Int))) ≠ (0 : Int) ∧
 ((∃ (i_1 : Bool),
 True ∧
 IntKind.i64.wrap ((IntKind.u64.wrap (row.el (↑i : Int).toNat ((0 : Nat) + (1 : Nat))).toI).tmod (IntKind.u64.wrap n)) =
 xA n row (↑i : Int).toNat ∧
 IntKind.i64.wrap
 (IntKind.i64.wrap
 ((IntKind.u64.wrap (row.el (↑i : Int).toNat ((0 : Nat) + (1 : Nat) + (1 : Nat))).toI).tmod
 (IntKind.u64.wrap (IntKind.i64.wrap (n + (1 : Int))))) -
 (1 : Int)) =
 yA n row (↑i : Int).toNat ∧
 IntKind.i64.wrap (IntKind.i32.wrap (row.el (↑i : Int).toNat ((0 : Nat) + (1 : Nat) + (1 : Nat) + (1 : Nat))).toI) =
 bA row (↑i : Int).toNat ∧
 IntKind.i64.wrap ((IntKind.u64.wrap (row.el (↑i : Int).toNat (0 : Nat)).toI).tmod (5 : Int)) =
 wA row (↑i : Int).toNat ∧
 row.rows = row.rows ∧
 (↑i : Int) = (↑i : Int) ∧
 n = n ∧
 (actsP n row (c, f) i).fst = (actsP n row (c, f) (↑i : Int).toNat).fst ∧
 (∀ (o : Nat), o < nat_lit 49 → (actsP n row (c, f) i).snd o = (actsP n row (c, f) (↑i : Int).toNat).snd o) ∧
 n = n ∧
 (actsP n row (c, f) i).fst = (actsP n row (c, f) (↑i : Int).toNat).fst ∧
 (∀ (o : Nat),
 o < nat_lit 49 → (actsP n row (c, f) i).snd o = (actsP n row (c, f) (↑i : Int).toNat).snd o) ∧
 (0 : Int) = (0 : Int) ∧
 false = false ∧
 (∀ (o : Nat), o < nat_lit 49 → (0 : Int) = (0 : Int)) ∧
 (0 : Int) = (0 : Int) ∧ false = false ∧ ∀ (o : Nat), o < nat_lit 49 → (0 : Int) = (0 : Int)) ∧
 ∀ (i_1 : Bool),
 True →
 ((wA row (↑i : Int).toNat == (0 : Int)) = true →
 ((xA n row (↑i : Int).toNat != yA n row (↑i : Int).toNat) = true →
 Sm (actsP n row (c, f) (↑i : Int).toNat).snd ∧
 Good n ((actsP n row (c, f) (↑i : Int).toNat).fst, (actsP n row (c, f) (↑i : Int).toNat).snd) ∧
 isEndP n (xA n row (↑i : Int).toNat) = true ∧
 isEndP n (yA n row (↑i : Int).toNat) = true ∧
 xA n row (↑i : Int).toNat ≠ yA n row (↑i : Int).toNat ∧
 (-4294967296 : Int) ≤ bA row (↑i : Int).toNat ∧
 ∃ (i_2 : Bool),
 True ∧
 row.rows = row.rows ∧
 (↑i : Int) = (↑i : Int) ∧
 n = n ∧
 bndC n (actsP n row (c, f) (↑i : Int).toNat).fst (actsP n row (c, f) (↑i : Int).toNat).snd
 (xA n row (↑i : Int).toNat) (yA n row (↑i : Int).toNat) (bA row (↑i : Int).toNat) =
 (actStep n row (↑i : Int).toNat (actsP n row (c, f) (↑i : Int).toNat)).fst ∧
 (∀ (o : Nat),
 o < nat_lit 49 →
 bndF n (actsP n row (c, f) (↑i : Int).toNat).fst
 (actsP n row (c, f) (↑i : Int).toNat).snd (xA n row (↑i : Int).toNat)
 (yA n row (↑i : Int).toNat) (bA row (↑i : Int).toNat) o =
 (actStep n row (↑i : Int).toNat (actsP n row (c, f) (↑i : Int).toNat)).snd o) ∧
 n = n ∧
 (bndZ n (xA n row (↑i : Int).toNat) (yA n row (↑i : Int).toNat)
 (bA row (↑i : Int).toNat)
 ((actsP n row (c, f) (↑i : Int).toNat).fst,
 (actsP n row (c, f) (↑i : Int).toNat).snd)).fst =
 (actStep n row (↑i : Int).toNat (actsP n row (c, f) (↑i : Int).toNat)).fst ∧
 (∀ (o : Nat),
 o < nat_lit 49 →
 (bndZ n (xA n row (↑i : Int).toNat) (yA n row (↑i : Int).toNat)
 (bA row (↑i : Int).toNat)
 ((actsP n row (c, f) (↑i : Int).toNat).fst,
 (actsP n row (c, f) (↑i : Int).toNat).snd)).snd
 o =
 (actStep n row (↑i : Int).toNat (actsP n row (c, f) (↑i : Int).toNat)).snd
 o) ∧
 (0 : Int) = (0 : Int) ∧
 false = false ∧
 (∀ (o : Nat), o < nat_lit 49 → (0 : Int) = (0 : Int)) ∧
 (0 : Int) = (0 : Int) ∧
 false = false ∧ ∀ (o : Nat), o < nat_lit 49 → (0 : Int) = (0 : Int)) ∧
 ((xA n row (↑i : Int).toNat != yA n row (↑i : Int).toNat) = false →
 ∃ (i_2 : Bool),
 True ∧
 row.rows = row.rows ∧
 (↑i : Int) = (↑i : Int) ∧
 n = n ∧
 (actsP n row (c, f) (↑i : Int).toNat).fst =
 (actStep n row (↑i : Int).toNat (actsP n row (c, f) (↑i : Int).toNat)).fst ∧
 (∀ (o : Nat),
 o < nat_lit 49 →
 (actsP n row (c, f) (↑i : Int).toNat).snd o =
 (actStep n row (↑i : Int).toNat (actsP n row (c, f) (↑i : Int).toNat)).snd o) ∧
 n = n ∧
 (actsP n row (c, f) (↑i : Int).toNat).fst =
 (actStep n row (↑i : Int).toNat (actsP n row (c, f) (↑i : Int).toNat)).fst ∧
 (∀ (o : Nat),
 o < nat_lit 49 →
 (actsP n row (c, f) (↑i : Int).toNat).snd o =
 (actStep n row (↑i : Int).toNat (actsP n row (c, f) (↑i : Int).toNat)).snd o) ∧
 (0 : Int) = (0 : Int) ∧
 false = false ∧
 (∀ (o : Nat), o < nat_lit 49 → (0 : Int) = (0 : Int)) ∧
 (0 : Int) = (0 : Int) ∧
 false = false ∧ ∀ (o : Nat), o < nat_lit 49 → (0 : Int) = (0 : Int))) ∧
 ((wA row (↑i : Int).toNat == (0 : Int)) = false →
 ((wA row (↑i : Int).toNat == (1 : Int)) = true →
 ((xA n row (↑i : Int).toNat != yA n row (↑i : Int).toNat) = true →
 Sm (actsP n row (c, f) (↑i : Int).toNat).snd ∧
 Good n ((actsP n row (c, f) (↑i : Int).toNat).fst, (actsP n row (c, f) (↑i : Int).toNat).snd) ∧
 isEndP n (yA n row (↑i : Int).toNat) = true ∧
 isEndP n (xA n row (↑i : Int).toNat) = true ∧
 yA n row (↑i : Int).toNat ≠ xA n row (↑i : Int).toNat ∧
 (-4294967296 : Int) ≤ bA row (↑i : Int).toNat ∧
 ∃ (i_2 : Bool),
 True ∧
 row.rows = row.rows ∧
 (↑i : Int) = (↑i : Int) ∧
 n = n ∧
 bndC n (actsP n row (c, f) (↑i : Int).toNat).fst (actsP n row (c, f) (↑i : Int).toNat).snd
 (yA n row (↑i : Int).toNat) (xA n row (↑i : Int).toNat) (bA row (↑i : Int).toNat) =
 (actStep n row (↑i : Int).toNat (actsP n row (c, f) (↑i : Int).toNat)).fst ∧
 (∀ (o : Nat),
 o < nat_lit 49 →
 bndF n (actsP n row (c, f) (↑i : Int).toNat).fst
 (actsP n row (c, f) (↑i : Int).toNat).snd (yA n row (↑i : Int).toNat)
 (xA n row (↑i : Int).toNat) (bA row (↑i : Int).toNat) o =
 (actStep n row (↑i : Int).toNat (actsP n row (c, f) (↑i : Int).toNat)).snd o) ∧
 n = n ∧
 (bndZ n (yA n row (↑i : Int).toNat) (xA n row (↑i : Int).toNat)
 (bA row (↑i : Int).toNat)
 ((actsP n row (c, f) (↑i : Int).toNat).fst,
 (actsP n row (c, f) (↑i : Int).toNat).snd)).fst =
 (actStep n row (↑i : Int).toNat (actsP n row (c, f) (↑i : Int).toNat)).fst ∧
 (∀ (o : Nat),
 o < nat_lit 49 →
 (bndZ n (yA n row (↑i : Int).toNat) (xA n row (↑i : Int).toNat)
 (bA row (↑i : Int).toNat)
 ((actsP n row (c, f) (↑i : Int).toNat).fst,
 (actsP n row (c, f) (↑i : Int).toNat).snd)).snd
 o =
 (actStep n row (↑i : Int).toNat (actsP n row (c, f) (↑i : Int).toNat)).snd
 o) ∧
 (0 : Int) = (0 : Int) ∧
 false = false ∧
 (∀ (o : Nat), o < nat_lit 49 → (0 : Int) = (0 : Int)) ∧
 (0 : Int) = (0 : Int) ∧
 false = false ∧ ∀ (o : Nat), o < nat_lit 49 → (0 : Int) = (0 : Int)) ∧
 ((xA n row (↑i : Int).toNat != yA n row (↑i : Int).toNat) = false →
 ∃ (i_2 : Bool),
 True ∧
 row.rows = row.rows ∧
 (↑i : Int) = (↑i : Int) ∧
 n = n ∧
 (actsP n row (c, f) (↑i : Int).toNat).fst =
 (actStep n row (↑i : Int).toNat (actsP n row (c, f) (↑i : Int).toNat)).fst ∧
 (∀ (o : Nat),
 o < nat_lit 49 →
 (actsP n row (c, f) (↑i : Int).toNat).snd o =
 (actStep n row (↑i : Int).toNat (actsP n row (c, f) (↑i : Int).toNat)).snd o) ∧
 n = n ∧
 (actsP n row (c, f) (↑i : Int).toNat).fst =
 (actStep n row (↑i : Int).toNat (actsP n row (c, f) (↑i : Int).toNat)).fst ∧
 (∀ (o : Nat),
 o < nat_lit 49 →
 (actsP n row (c, f) (↑i : Int).toNat).snd o =
 (actStep n row (↑i : Int).toNat (actsP n row (c, f) (↑i : Int).toNat)).snd o) ∧
 (0 : Int) = (0 : Int) ∧
 false = false ∧
 (∀ (o : Nat), o < nat_lit 49 → (0 : Int) = (0 : Int)) ∧
 (0 : Int) = (0 : Int) ∧
 false = false ∧ ∀ (o : Nat), o < nat_lit 49 → (0 : Int) = (0 : Int))) ∧
 ((wA row (↑i : Int).toNat == (1 : Int)) = false →
 ((wA row (↑i : Int).toNat == (2 : Int)) = true →
 Sm (actsP n row (c, f) (↑i : Int).toNat).snd ∧
 Good n ((actsP n row (c, f) (↑i : Int).toNat).fst, (actsP n row (c, f) (↑i : Int).toNat).snd) ∧
 isVarP n (xA n row (↑i : Int).toNat) = true ∧
 ∃ (i_2 : Bool),
 True ∧
 row.rows = row.rows ∧
 (↑i : Int) = (↑i : Int) ∧
 n = n ∧
 (actsP n row (c, f) (↑i : Int).toNat).fst =
 (actStep n row (↑i : Int).toNat (actsP n row (c, f) (↑i : Int).toNat)).fst ∧
 (∀ (o : Nat),
 o < nat_lit 49 →
 forgetF n (actsP n row (c, f) (↑i : Int).toNat).fst
 (actsP n row (c, f) (↑i : Int).toNat).snd (xA n row (↑i : Int).toNat) o =
 (actStep n row (↑i : Int).toNat (actsP n row (c, f) (↑i : Int).toNat)).snd o) ∧
 n = n ∧
 (fgZ n (xA n row (↑i : Int).toNat)
 ((actsP n row (c, f) (↑i : Int).toNat).fst,
 (actsP n row (c, f) (↑i : Int).toNat).snd)).fst =
 (actStep n row (↑i : Int).toNat (actsP n row (c, f) (↑i : Int).toNat)).fst ∧
 (∀ (o : Nat),
 o < nat_lit 49 →
 (fgZ n (xA n row (↑i : Int).toNat)
 ((actsP n row (c, f) (↑i : Int).toNat).fst,
 (actsP n row (c, f) (↑i : Int).toNat).snd)).snd
 o =
 (actStep n row (↑i : Int).toNat (actsP n row (c, f) (↑i : Int).toNat)).snd o) ∧
 (0 : Int) = (0 : Int) ∧
 false = false ∧
 (∀ (o : Nat), o < nat_lit 49 → (0 : Int) = (0 : Int)) ∧
 (0 : Int) = (0 : Int) ∧
 false = false ∧ ∀ (o : Nat), o < nat_lit 49 → (0 : Int) = (0 : Int)) ∧
 ((wA row (↑i : Int).toNat == (2 : Int)) = false →
 ((wA row (↑i : Int).toNat == (3 : Int)) = true →
 ((wA row (↑i : Int).toNat == (3 : Int)) = true →
 Good n ((actsP n row (c, f) (↑i : Int).toNat).fst, (actsP n row (c, f) (↑i : Int).toNat).snd) ∧
 Good n ((actsP n row (c, f) (↑i : Int).toNat).fst, (actsP n row (c, f) (↑i : Int).toNat).snd) ∧
 isVarP n (xA n row (↑i : Int).toNat) = true ∧
 isEndP n (yA n row (↑i : Int).toNat) = true ∧
 ((-2147483648 : Int) ≤ bA row (↑i : Int).toNat ∧ bA row (↑i : Int).toNat ≤ (2147483647 : Int)) ∧
 ∃ (i_2 : Bool),
 True ∧
 row.rows = row.rows ∧
 (↑i : Int) = (↑i : Int) ∧
 n = n ∧
 (copyZ n (xA n row (↑i : Int).toNat) (yA n row (↑i : Int).toNat)
 (bA row (↑i : Int).toNat)
 ((actsP n row (c, f) (↑i : Int).toNat).fst,
 (actsP n row (c, f) (↑i : Int).toNat).snd)).fst =
 (actStep n row (↑i : Int).toNat (actsP n row (c, f) (↑i : Int).toNat)).fst ∧
 (∀ (o : Nat),
 o < nat_lit 49 →
 (copyZ n (xA n row (↑i : Int).toNat) (yA n row (↑i : Int).toNat)
 (bA row (↑i : Int).toNat)
 ((actsP n row (c, f) (↑i : Int).toNat).fst,
 (actsP n row (c, f) (↑i : Int).toNat).snd)).snd
 o =
 (actStep n row (↑i : Int).toNat (actsP n row (c, f) (↑i : Int).toNat)).snd
 o) ∧
 n = n ∧
 (copyZ n (xA n row (↑i : Int).toNat) (yA n row (↑i : Int).toNat)
 (bA row (↑i : Int).toNat)
 ((actsP n row (c, f) (↑i : Int).toNat).fst,
 (actsP n row (c, f) (↑i : Int).toNat).snd)).fst =
 (actStep n row (↑i : Int).toNat
 (actsP n row (c, f) (↑i : Int).toNat)).fst ∧
 (∀ (o : Nat),
 o < nat_lit 49 →
 (copyZ n (xA n row (↑i : Int).toNat) (yA n row (↑i : Int).toNat)
 (bA row (↑i : Int).toNat)
 ((actsP n row (c, f) (↑i : Int).toNat).fst,
 (actsP n row (c, f) (↑i : Int).toNat).snd)).snd
 o =
 (actStep n row (↑i : Int).toNat
 (actsP n row (c, f) (↑i : Int).toNat)).snd
 o) ∧
 (0 : Int) = (0 : Int) ∧
 false = false ∧
 (∀ (o : Nat), o < nat_lit 49 → (0 : Int) = (0 : Int)) ∧
 (0 : Int) = (0 : Int) ∧
 false = false ∧
 ∀ (o : Nat), o < nat_lit 49 → (0 : Int) = (0 : Int)) ∧
 ((wA row (↑i : Int).toNat == (3 : Int)) = false →
 ∃ (i_2 : Bool),
 True ∧
 row.rows = row.rows ∧
 (↑i : Int) = (↑i : Int) ∧
 n = n ∧
 (actsP n row (c, f) (↑i : Int).toNat).fst =
 (actStep n row (↑i : Int).toNat (actsP n row (c, f) (↑i : Int).toNat)).fst ∧
 (∀ (o : Nat),
 o < nat_lit 49 →
 (actsP n row (c, f) (↑i : Int).toNat).snd o =
 (actStep n row (↑i : Int).toNat (actsP n row (c, f) (↑i : Int).toNat)).snd o) ∧
 n = n ∧
 (actsP n row (c, f) (↑i : Int).toNat).fst =
 (actStep n row (↑i : Int).toNat (actsP n row (c, f) (↑i : Int).toNat)).fst ∧
 (∀ (o : Nat),
 o < nat_lit 49 →
 (actsP n row (c, f) (↑i : Int).toNat).snd o =
 (actStep n row (↑i : Int).toNat (actsP n row (c, f) (↑i : Int).toNat)).snd
 o) ∧
 (0 : Int) = (0 : Int) ∧
 false = false ∧
 (∀ (o : Nat), o < nat_lit 49 → (0 : Int) = (0 : Int)) ∧
 (0 : Int) = (0 : Int) ∧
 false = false ∧ ∀ (o : Nat), o < nat_lit 49 → (0 : Int) = (0 : Int))) ∧
 ((wA row (↑i : Int).toNat == (3 : Int)) = false →
 ((wA row (↑i : Int).toNat == (4 : Int)) = true →
 Good n ((actsP n row (c, f) (↑i : Int).toNat).fst, (actsP n row (c, f) (↑i : Int).toNat).snd) ∧
 Good n ((actsP n row (c, f) (↑i : Int).toNat).fst, (actsP n row (c, f) (↑i : Int).toNat).snd) ∧
 isVarP n (xA n row (↑i : Int).toNat) = true ∧
 isEndP n (yA n row (↑i : Int).toNat) = true ∧
 ((-2147483648 : Int) ≤ bA row (↑i : Int).toNat ∧ bA row (↑i : Int).toNat ≤ (2147483647 : Int)) ∧
 ∃ (i_2 : Bool),
 True ∧
 row.rows = row.rows ∧
 (↑i : Int) = (↑i : Int) ∧
 n = n ∧
 (copyZ n (xA n row (↑i : Int).toNat) (yA n row (↑i : Int).toNat)
 (bA row (↑i : Int).toNat)
 ((actsP n row (c, f) (↑i : Int).toNat).fst,
 (actsP n row (c, f) (↑i : Int).toNat).snd)).fst =
 (actStep n row (↑i : Int).toNat (actsP n row (c, f) (↑i : Int).toNat)).fst ∧
 (∀ (o : Nat),
 o < nat_lit 49 →
 (copyZ n (xA n row (↑i : Int).toNat) (yA n row (↑i : Int).toNat)
 (bA row (↑i : Int).toNat)
 ((actsP n row (c, f) (↑i : Int).toNat).fst,
 (actsP n row (c, f) (↑i : Int).toNat).snd)).snd
 o =
 (actStep n row (↑i : Int).toNat (actsP n row (c, f) (↑i : Int).toNat)).snd
 o) ∧
 n = n ∧
 (copyZ n (xA n row (↑i : Int).toNat) (yA n row (↑i : Int).toNat)
 (bA row (↑i : Int).toNat)
 ((actsP n row (c, f) (↑i : Int).toNat).fst,
 (actsP n row (c, f) (↑i : Int).toNat).snd)).fst =
 (actStep n row (↑i : Int).toNat
 (actsP n row (c, f) (↑i : Int).toNat)).fst ∧
 (∀ (o : Nat),
 o < nat_lit 49 →
 (copyZ n (xA n row (↑i : Int).toNat) (yA n row (↑i : Int).toNat)
 (bA row (↑i : Int).toNat)
 ((actsP n row (c, f) (↑i : Int).toNat).fst,
 (actsP n row (c, f) (↑i : Int).toNat).snd)).snd
 o =
 (actStep n row (↑i : Int).toNat
 (actsP n row (c, f) (↑i : Int).toNat)).snd
 o) ∧
 (0 : Int) = (0 : Int) ∧
 false = false ∧
 (∀ (o : Nat), o < nat_lit 49 → (0 : Int) = (0 : Int)) ∧
 (0 : Int) = (0 : Int) ∧
 false = false ∧
 ∀ (o : Nat), o < nat_lit 49 → (0 : Int) = (0 : Int)) ∧
 ((wA row (↑i : Int).toNat == (4 : Int)) = false →
 ∃ (i_2 : Bool),
 True ∧
 row.rows = row.rows ∧
 (↑i : Int) = (↑i : Int) ∧
 n = n ∧
 (actsP n row (c, f) (↑i : Int).toNat).fst =
 (actStep n row (↑i : Int).toNat (actsP n row (c, f) (↑i : Int).toNat)).fst ∧
 (∀ (o : Nat),
 o < nat_lit 49 →
 (actsP n row (c, f) (↑i : Int).toNat).snd o =
 (actStep n row (↑i : Int).toNat (actsP n row (c, f) (↑i : Int).toNat)).snd o) ∧
 n = n ∧
 (actsP n row (c, f) (↑i : Int).toNat).fst =
 (actStep n row (↑i : Int).toNat (actsP n row (c, f) (↑i : Int).toNat)).fst ∧
 (∀ (o : Nat),
 o < nat_lit 49 →
 (actsP n row (c, f) (↑i : Int).toNat).snd o =
 (actStep n row (↑i : Int).toNat (actsP n row (c, f) (↑i : Int).toNat)).snd
 o) ∧
 (0 : Int) = (0 : Int) ∧
 false = false ∧
 (∀ (o : Nat), o < nat_lit 49 → (0 : Int) = (0 : Int)) ∧
 (0 : Int) = (0 : Int) ∧
 false = false ∧ ∀ (o : Nat), o < nat_lit 49 → (0 : Int) = (0 : Int))))))) ∧
 ∀ (i_1 : Bool),
 True →
 ((!(n == n &&
 ((actStep n row (↑i : Int).toNat (actsP n row (c, f) (↑i : Int).toNat)).fst ==
 (actStep n row (↑i : Int).toNat (actsP n row (c, f) (↑i : Int).toNat)).fst &&
 (decide
 (∀ (o : Nat),
 o < (49 : Nat) →
 (actStep n row (↑i : Int).toNat (actsP n row (c, f) (↑i : Int).toNat)).snd o =
 (actStep n row (↑i : Int).toNat (actsP n row (c, f) (↑i : Int).toNat)).snd o) &&
 true))) ||
 !rightP n (actStep n row (↑i : Int).toNat (actsP n row (c, f) (↑i : Int).toNat)).fst
 (actStep n row (↑i : Int).toNat (actsP n row (c, f) (↑i : Int).toNat)).snd) =
 true →
 n = n ∧
 (actStep n row (↑i : Int).toNat (actsP n row (c, f) (↑i : Int).toNat)).fst = (actsZ n row (c, f)).fst ∧
 (∀ (o : Nat),
 o < nat_lit 49 →
 (actStep n row (↑i : Int).toNat (actsP n row (c, f) (↑i : Int).toNat)).snd o = (actsZ n row (c, f)).snd o) ∧
 n = n ∧
 (actStep n row (↑i : Int).toNat (actsP n row (c, f) (↑i : Int).toNat)).fst = (actsZ n row (c, f)).fst ∧
 (∀ (o : Nat),
 o < nat_lit 49 →
 (actStep n row (↑i : Int).toNat (actsP n row (c, f) (↑i : Int).toNat)).snd o =
 (actsZ n row (c, f)).snd o) ∧
 false = true) ∧
 ((!(n == n &&
 ((actStep n row (↑i : Int).toNat (actsP n row (c, f) (↑i : Int).toNat)).fst ==
 (actStep n row (↑i : Int).toNat (actsP n row (c, f) (↑i : Int).toNat)).fst &&
 (decide
 (∀ (o : Nat),
 o < (49 : Nat) →
 (actStep n row (↑i : Int).toNat (actsP n row (c, f) (↑i : Int).toNat)).snd o =
 (actStep n row (↑i : Int).toNat (actsP n row (c, f) (↑i : Int).toNat)).snd o) &&
 true))) ||
 !rightP n (actStep n row (↑i : Int).toNat (actsP n row (c, f) (↑i : Int).toNat)).fst
 (actStep n row (↑i : Int).toNat (actsP n row (c, f) (↑i : Int).toNat)).snd) =
 false →
 ∃ (j : Nat),
 (j ≤ row.len ∧ j ≤ (20 : Nat)) ∧
 (21 : Nat) - j < (21 : Nat) - i ∧
 IntKind.i64.wrap ((↑i : Int) + (1 : Int)) = (↑j : Int) ∧
 row.rows = row.rows ∧
 n = n ∧
 (actStep n row (↑i : Int).toNat (actsP n row (c, f) (↑i : Int).toNat)).fst = (actsP n row (c, f) j).fst ∧
 (∀ (o : Nat),
 o < nat_lit 49 →
 (actStep n row (↑i : Int).toNat (actsP n row (c, f) (↑i : Int).toNat)).snd o =
 (actsP n row (c, f) j).snd o) ∧
 n = n ∧
 (actStep n row (↑i : Int).toNat (actsP n row (c, f) (↑i : Int).toNat)).fst =
 (actsP n row (c, f) j).fst ∧
 (∀ (o : Nat),
 o < nat_lit 49 →
 (actStep n row (↑i : Int).toNat (actsP n row (c, f) (↑i : Int).toNat)).snd o =
 (actsP n row (c, f) j).snd o) ∧
 (0 : Int) = (0 : Int) ∧
 false = false ∧
 (∀ (o : Nat), o < nat_lit 49 → (0 : Int) = (0 : Int)) ∧
 (0 : Int) = (0 : Int) ∧
 false = false ∧ ∀ (o : Nat), o < nat_lit 49 → (0 : Int) = (0 : Int)))) ∧
 ((decide ((↑i : Int) < (↑row.len : Int)) && decide ((↑i : Int) < (20 : Int))) = false →
 n = n ∧
 (actsP n row (c, f) i).fst = (actsZ n row (c, f)).fst ∧
 (∀ (o : Nat), o < nat_lit 49 → (actsP n row (c, f) i).snd o = (actsZ n row (c, f)).snd o) ∧
 n = n ∧
 (actsP n row (c, f) i).fst = (actsZ n row (c, f)).fst ∧
 (∀ (o : Nat), o < nat_lit 49 → (actsP n row (c, f) i).snd o = (actsZ n row (c, f)).snd o) ∧ true = true)) (by kernel_rfl) ?_
    simp only [raw0, true_and, and_true, implies_true, Nat.mul_one, Int.toNat_natCast, c7, decide_eq_true_eq, decide_eq_false_iff_not, Nat.zero_add, forall_const, Nat.le_eq, at_iff, bne_iff_ne, bne_eq_false_iff_eq, and_self, and_self_left, Nat.reduceAdd]
    intro hG hm he hg
    subst hm he
    have hn := hG.n0
    refine ⟨⟨0, by omega, rfl, rfl, fun _ _ => rfl, rfl, rfl, hg⟩, fun i hi => ⟨fun h1 => ?_, fun h1 => ?_⟩⟩
    · have hi2 : i < row.len ∧ i < 20 := by simp only [Bool.and_eq_true, decide_eq_true_eq] at h1; omega
      have gz := good_acts hG (d := row) i
      refine ⟨by omega, fun h2 => ?_, fun h2 => ?_⟩
      · obtain rfl : m = 0 := by simpa using h2
        have e : actsP 0 row (e, f) i = actsZ 0 row (e, f) := (actsP_zero i).trans (actsP_zero _).symm
        rw [e]; exact ⟨rfl, fun _ _ => rfl, rfl, fun _ _ => rfl⟩
      · have hm0 : m ≠ 0 := by simpa using h2
        have hx := xA_in (n := m) (by omega) row i
        have hy := yA_in (n := m) (by omega) row i
        have hb := bA_in row i
        have vx := isVar_of hn hx
        have ey := isEnd_of hn hy
        have ex := isVar_end vx
        have gs : Good m (actStep m row i (actsP m row (e, f) i)) := good_act gz
        have hsame : actsP m row (e, f) (i + 1) = actStep m row i (actsP m row (e, f) i) := if_neg hm0
        refine ⟨?_, ?_, ⟨⟨true, rfl, rfl, rfl, rfl⟩, ?_⟩, fun h3 => ?_, fun h3 => ?_⟩
        · rw [IntKind.wrap_u64]; omega
        · rw [wr _ (by omega), IntKind.wrap_u64]; omega
        · clear hsame gs
          unfold actStep
          generalize actsP m row (e, f) i = z at gz ⊢
          generalize wA row i = w at *
          generalize xA m row i = x at *
          generalize yA m row i = y at *
          generalize bA row i = b at *
          refine ⟨fun c0 => ?_, fun c0 => ⟨fun c1 => ?_, fun c1 => ⟨fun c2 => ?_, fun c2 => ⟨fun c3 => ⟨fun _ => ?_, fun h => by rw [c3] at h; cases h⟩, fun c3 => ⟨fun c4 => ?_, fun c4 => ?_⟩⟩⟩⟩⟩
          · obtain rfl : w = 0 := by simpa using c0
            refine ⟨fun hxy => ?_, fun hxy => ?_⟩
            · have e : actW m 0 x y b z = bndZ m x y b z := (if_pos rfl).trans (if_pos hxy)
              rw [e]; exact ⟨gz.sm, gz, ex, ey, hxy, by omega, true, rfl, fun _ _ => rfl, rfl, fun _ _ => rfl⟩
            · have e : actW m 0 x y b z = z := (if_pos rfl).trans (if_neg (by simpa using hxy))
              rw [e]; exact ⟨true, rfl, fun _ _ => rfl, rfl, fun _ _ => rfl⟩
          · obtain rfl : w = 1 := by simpa using c1
            refine ⟨fun hxy => ?_, fun hxy => ?_⟩
            · have e : actW m 1 x y b z = bndZ m y x b z := (if_neg (by omega)).trans ((if_pos rfl).trans (if_pos hxy))
              rw [e]; exact ⟨gz.sm, gz, ey, ex, Ne.symm hxy, by omega, true, rfl, fun _ _ => rfl, rfl, fun _ _ => rfl⟩
            · have e : actW m 1 x y b z = z := (if_neg (by omega)).trans ((if_pos rfl).trans (if_neg (by simpa using hxy)))
              rw [e]; exact ⟨true, rfl, fun _ _ => rfl, rfl, fun _ _ => rfl⟩
          · obtain rfl : w = 2 := by simpa using c2
            have e : actW m 2 x y b z = fgZ m x z := (if_neg (by omega)).trans ((if_neg (by omega)).trans (if_pos rfl))
            rw [e]; exact ⟨gz.sm, gz, vx, true, rfl, fun _ _ => rfl, rfl, fun _ _ => rfl⟩
          · obtain rfl : w = 3 := by simpa using c3
            have e : actW m 3 x y b z = copyZ m x y b z := (if_neg (by omega)).trans ((if_neg (by omega)).trans ((if_neg (by omega)).trans (if_pos (by omega))))
            rw [e]; exact ⟨gz, vx, ey, hb, true, rfl, fun _ _ => rfl, rfl, fun _ _ => rfl⟩
          · obtain rfl : w = 4 := by simpa using c4
            have e : actW m 4 x y b z = copyZ m x y b z := (if_neg (by omega)).trans ((if_neg (by omega)).trans ((if_neg (by omega)).trans (if_pos (by omega))))
            rw [e]; exact ⟨gz, vx, ey, hb, true, rfl, fun _ _ => rfl, rfl, fun _ _ => rfl⟩
          · have q0 : w ≠ 0 := by simpa using c0
            have q1 : w ≠ 1 := by simpa using c1
            have q2 : w ≠ 2 := by simpa using c2
            have q3 : w ≠ 3 := by simpa using c3
            have q4 : w ≠ 4 := by simpa using c4
            have e : actW m w x y b z = z := (if_neg q0).trans ((if_neg q1).trans ((if_neg q2).trans (if_neg (by omega))))
            rw [e]; exact ⟨true, rfl, fun _ _ => rfl, rfl, fun _ _ => rfl⟩
        · rw [good_right gs] at h3
          simp at h3
        · exact ⟨i + 1, by omega, by omega, wr _ (by omega), by rw [hsame], fun _ _ => by rw [hsame], by rw [hsame], fun _ _ => by rw [hsame]⟩
    · have hi2 : i = min row.len 20 := by simp only [Bool.and_eq_false_iff, decide_eq_false_iff_not] at h1; omega
      subst hi2
      exact ⟨rfl, fun _ _ => rfl, rfl, fun _ _ => rfl⟩
  · trivial
end Go.Proofs.Ytmdoafhohflhdaa.Sx.Z
