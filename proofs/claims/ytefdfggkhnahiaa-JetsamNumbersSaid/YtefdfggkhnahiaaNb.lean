/-
  The Nums' calls: what they tell.
-/
import Derived.Test.YtefdfggkhnahiaaNa
namespace Go.Proofs.Ytefdfggkhnahiaa.Sx.Z
open Go.RowKit
def metZ (n x lo hi : Int) (z : Zs) : Zs := if x < 0 then z else bndZ n (-1) x (0 - ofLo lo hi) (bndZ n x (-1) (ofHi lo hi) z)
theorem good_met {n : Int} {z : Zs} (h : Good n z) (x lo hi : Int) : Good n (metZ n x lo hi z) := by
  unfold metZ
  split
  · exact h
  · exact good_bnd (good_bnd h _ _ _) _ _ _
theorem of_in (a b : Int) : -2147483648 ≤ ofLo a b ∧ ofLo a b ≤ 2147483647 ∧ -2147483648 ≤ ofHi a b ∧ ofHi a b ≤ 2147483647 := by
  unfold ofLo ofHi
  (repeat' split) <;> omega
theorem none_bnd (n : Int) : bndC n false (fun _ => 0) (-1) (-1) (-1) = true ∧ bndF n false (fun _ => 0) (-1) (-1) (-1) = fun _ => 0 := by
  have e : bndZ n (-1) (-1) (-1) (false, fun _ => 0) = (true, fun _ => 0) := by
    have q0 : ((-1 : Int) + 1).toNat = 0 := rfl
    rcases bnd_cases n (-1) (-1) (-1) (false, fun _ => 0) with ⟨_, h⟩ | ⟨_, _, _, h, ⟨_, e⟩ | ⟨h2, _⟩⟩
    · have := h (isEnd_nought n) (isEnd_nought n) rfl
      dsimp only at this; omega
    · exact e
    · dsimp only at h2; omega
  exact ⟨congrArg Prod.fst e, congrArg Prod.snd e⟩
/-- Zones of whatever count, joined, widened. -/
theorem sm_jn {n m : Int} {e e2 : Bool} {f g : Nat → Int} (gf : Good n (e, f)) (gg : Good m (e2, g)) : Sm (jnF n e f m e2 g) := by
  by_cases h : n = m
  · subst h; exact (good_jn gf gg).sm
  · have : jnF n e f m e2 g = f := funext fun o => if_pos (by simp [h])
    rw [this]; exact gf.sm
theorem sm_wd {n m : Int} {e e2 : Bool} {f g : Nat → Int} (gf : Good n (e, f)) (gg : Good m (e2, g)) : Sm (widF n e f m e2 g) := by
  by_cases h : n = m
  · subst h; exact (good_wd gf gg).sm
  · have : widF n e f m e2 g = f := funext fun o => if_pos (by simp [h])
    rw [this]; exact gf.sm
def metS : FSpec := fun ds _ => match ds with
  | [.i n, .b c, .f f, .i x, .i lo, .i hi] => some { val := .one (.agg [.c (.int .i64 (.sym (n))), .c (.bool (.sym ((metZ n x lo hi (c, f)).1))), .ints .i64 (.lit 49) ((metZ n x lo hi (c, f)).2)]), vc := [Good n (c, f)] }
  | _ => none
def metC : Con := con [zA, iA, itvA] metS
theorem met_ok : ConOK Try.prog 52 metC := by
  refine fn_ob tt_ok mixed Try.func52 rfl (fun _ _ => by kernel_rfl) (A := fun ds => ⟨fun _ => Cons.of [(29, iofC), (46, boundC)], fun _ => none, fun _ => none⟩) (fun _ _ => (cons_cons iof_ok (cons_cons bound_ok cons_nil))) (by kernel_rfl) ?_
  intro ds fr
  unfold metS
  split
  · rename_i n c f x lo hi
    refine kmp (q := Good n (c, f) →
 (decide (x < (0 : Int)) = true → n = n ∧ c = (metZ n x lo hi (c, f)).fst ∧ ∀ (o : Nat), o < nat_lit 49 → f o = (metZ n x lo hi (c, f)).snd o) ∧
 (decide (x < (0 : Int)) = false →
 Sm f ∧
 Sm (bndF n c f x (-1 : Int) (ofHi lo hi)) ∧
 n = n ∧
 bndC n (bndC n c f x (-1 : Int) (ofHi lo hi)) (bndF n c f x (-1 : Int) (ofHi lo hi)) (-1 : Int) x (IntKind.i64.wrap ((0 : Int) - ofLo lo hi)) =
 (metZ n x lo hi (c, f)).fst ∧
 ∀ (o : Nat),
 o < nat_lit 49 →
 bndF n (bndC n c f x (-1 : Int) (ofHi lo hi)) (bndF n c f x (-1 : Int) (ofHi lo hi)) (-1 : Int) x (IntKind.i64.wrap ((0 : Int) - ofLo lo hi))
 o =
 (metZ n x lo hi (c, f)).snd o)) (by kernel_rfl) ?_
    simp only [true_and, decide_eq_true_eq, decide_eq_false_iff_not]
    intro h
    have hl := of_in lo hi
    rw [wr (0 - ofLo lo hi) (by omega)]
    have g1 := good_bnd h x (-1) (ofHi lo hi)
    refine ⟨fun hx => ?_, fun hx => ⟨h.sm, g1.sm, ?_⟩⟩
    · have e : metZ n x lo hi (c, f) = (c, f) := if_pos hx
      rw [e]; exact ⟨rfl, fun _ _ => rfl⟩
    · have e : metZ n x lo hi (c, f) = bndZ n (-1) x (0 - ofLo lo hi) (bndZ n x (-1) (ofHi lo hi) (c, f)) := if_neg hx
      rw [e]; exact ⟨rfl, fun _ _ => rfl⟩
  · trivial
def ntopS : FSpec := fun ds _ => match ds with
  | [.i n] => some { val := .one (.agg [.c (.bool (.sym ((false, topF n) : Zs).1)), .c (.rows 53 (itD ((topN n).toNat) (topN n) ((false, topF n)))), .c (.int .i64 (.sym (topN n))), .c (.bool (.sym ((false, topF n) : Zs).1)), .ints .i64 (.lit 49) ((false, topF n) : Zs).2]), vc := [] }
  | _ => none
def ntopC : Con := con [iA] ntopS
theorem ntop_ok : ConOK Try.prog 11 ntopC := by
  refine fn_ob tt_ok mixed Try.func11 rfl (fun _ _ => by kernel_rfl) (A := fun ds => ⟨fun _ => Cons.of [(39, topC), (40, nofC)], fun _ => none, fun _ => none⟩) (fun _ _ => (cons_cons top_ok (cons_cons nof_ok cons_nil))) (by kernel_rfl) ?_
  intro ds fr
  unfold ntopS
  split
  · rename_i n
    refine kmp (q := Sm (topF n) ∧
 ((0 : Int) ≤ topN n ∧ topN n ≤ (1000 : Int)) ∧
 false = false ∧
 List.map (fun (j : Nat) => [D.i (itvLo (topN n) false (topF n) (↑j : Int)), D.i (itvHi (topN n) false (topF n) (↑j : Int))]) (List.range (topN n).toNat) =
 List.map (fun (j : Nat) => [D.i (itvLo (topN n) false (topF n) (↑j : Int)), D.i (itvHi (topN n) false (topF n) (↑j : Int))])
 (List.range (topN n).toNat) ∧
 topN n = topN n ∧ false = false ∧ ∀ (o : Nat), o < nat_lit 49 → topF n o = topF n o) (by kernel_rfl) ?_
    simp only [and_true, implies_true, and_self]
    have g := (good_top n).sm
    have ht := topN_le n
    exact ⟨g, ht.1, by omega⟩
  · trivial
def nzerosS : FSpec := fun ds _ => match ds with
  | [.i n] => some { val := .one (.agg [.c (.bool (.sym ((false, fun _ => 0) : Zs).1)), .c (.rows 53 (itD ((topN n).toNat) (topN n) ((false, fun _ => 0)))), .c (.int .i64 (.sym (topN n))), .c (.bool (.sym ((false, fun _ => 0) : Zs).1)), .ints .i64 (.lit 49) ((false, fun _ => 0) : Zs).2]), vc := [] }
  | _ => none
def nzerosC : Con := con [iA] nzerosS
theorem nzeros_ok : ConOK Try.prog 13 nzerosC := by
  refine fn_ob tt_ok mixed Try.func13 rfl (fun _ _ => by kernel_rfl) (A := fun ds => ⟨fun _ => Cons.of [(42, zerosC), (40, nofC)], fun _ => none, fun _ => none⟩) (fun _ _ => (cons_cons zeros_ok (cons_cons nof_ok cons_nil))) (by kernel_rfl) ?_
  intro ds fr
  unfold nzerosS
  split
  · rename_i n
    refine kmp (q := (Sm fun (x : Nat) => (0 : Int)) ∧
 ((0 : Int) ≤ min (max n (0 : Int)) (6 : Int) ∧ min (max n (0 : Int)) (6 : Int) ≤ (1000 : Int)) ∧
 false = false ∧
 List.map
 (fun (j : Nat) =>
 [D.i (itvLo (min (max n (0 : Int)) (6 : Int)) false (fun (x : Nat) => (0 : Int)) (↑j : Int)),
 D.i (itvHi (min (max n (0 : Int)) (6 : Int)) false (fun (x : Nat) => (0 : Int)) (↑j : Int))])
 (List.range (min (max n (0 : Int)) (6 : Int)).toNat) =
 List.map
 (fun (j : Nat) =>
 [D.i (itvLo (topN n) false (fun (x : Nat) => (0 : Int)) (↑j : Int)), D.i (itvHi (topN n) false (fun (x : Nat) => (0 : Int)) (↑j : Int))])
 (List.range (topN n).toNat) ∧
 min (max n (0 : Int)) (6 : Int) = topN n ∧ false = false ∧ ∀ (o : Nat), o < nat_lit 49 → (0 : Int) = (0 : Int)) (by kernel_rfl) ?_
    simp only [true_and, and_true, implies_true, and_self]
    have e : min (max n 0) 6 = topN n := rfl
    have ht := topN_le n
    rw [e]
    have s0 : Sm (fun _ => 0) := (good_none (n := 0) (by omega) false).sm
    exact ⟨s0, by omega, rfl, rfl⟩
  · trivial
def nnoneS : FSpec := fun ds _ => match ds with
  | [.i n] => some { val := .one (.agg [.c (.bool (.sym ((true, fun _ => 0) : Zs).1)), .c (.rows 53 (itD ((topN n).toNat) (topN n) ((true, fun _ => 0)))), .c (.int .i64 (.sym (topN n))), .c (.bool (.sym ((true, fun _ => 0) : Zs).1)), .ints .i64 (.lit 49) ((true, fun _ => 0) : Zs).2]), vc := [] }
  | _ => none
def nnoneC : Con := con [iA] nnoneS
theorem nnone_ok : ConOK Try.prog 17 nnoneC := by
  refine fn_ob tt_ok mixed Try.func17 rfl (fun _ _ => by kernel_rfl) (A := fun ds => ⟨fun _ => Cons.of [(42, zerosC), (46, boundC), (40, nofC)], fun _ => none, fun _ => none⟩) (fun _ _ => (cons_cons zeros_ok (cons_cons bound_ok (cons_cons nof_ok cons_nil)))) (by kernel_rfl) ?_
  intro ds fr
  unfold nnoneS
  split
  · rename_i n
    refine kmp (q := (Sm fun (x : Nat) => (0 : Int)) ∧
 Sm (bndF (min (max n (0 : Int)) (6 : Int)) false (fun (x : Nat) => (0 : Int)) (-1 : Int) (-1 : Int) (-1 : Int)) ∧
 ((0 : Int) ≤ min (max n (0 : Int)) (6 : Int) ∧ min (max n (0 : Int)) (6 : Int) ≤ (1000 : Int)) ∧
 bndC (min (max n (0 : Int)) (6 : Int)) false (fun (x : Nat) => (0 : Int)) (-1 : Int) (-1 : Int) (-1 : Int) = true ∧
 List.map
 (fun (j : Nat) =>
 [D.i
 (itvLo (min (max n (0 : Int)) (6 : Int))
 (bndC (min (max n (0 : Int)) (6 : Int)) false (fun (x : Nat) => (0 : Int)) (-1 : Int) (-1 : Int) (-1 : Int))
 (bndF (min (max n (0 : Int)) (6 : Int)) false (fun (x : Nat) => (0 : Int)) (-1 : Int) (-1 : Int) (-1 : Int)) (↑j : Int)),
 D.i
 (itvHi (min (max n (0 : Int)) (6 : Int))
 (bndC (min (max n (0 : Int)) (6 : Int)) false (fun (x : Nat) => (0 : Int)) (-1 : Int) (-1 : Int) (-1 : Int))
 (bndF (min (max n (0 : Int)) (6 : Int)) false (fun (x : Nat) => (0 : Int)) (-1 : Int) (-1 : Int) (-1 : Int)) (↑j : Int))])
 (List.range (min (max n (0 : Int)) (6 : Int)).toNat) =
 List.map
 (fun (j : Nat) =>
 [D.i (itvLo (topN n) true (fun (x : Nat) => (0 : Int)) (↑j : Int)), D.i (itvHi (topN n) true (fun (x : Nat) => (0 : Int)) (↑j : Int))])
 (List.range (topN n).toNat) ∧
 min (max n (0 : Int)) (6 : Int) = topN n ∧
 bndC (min (max n (0 : Int)) (6 : Int)) false (fun (x : Nat) => (0 : Int)) (-1 : Int) (-1 : Int) (-1 : Int) = true ∧
 ∀ (o : Nat),
 o < nat_lit 49 → bndF (min (max n (0 : Int)) (6 : Int)) false (fun (x : Nat) => (0 : Int)) (-1 : Int) (-1 : Int) (-1 : Int) o = (0 : Int)) (by kernel_rfl) ?_
    simp only [raw0]
    have e : min (max n 0) 6 = topN n := rfl
    have ht := topN_le n
    obtain ⟨e1, e2⟩ := none_bnd (topN n)
    rw [e, e1, e2]
    have s0 : Sm (fun _ => 0) := (good_none (n := 0) (by omega) false).sm
    exact ⟨s0, s0, by omega, rfl, rfl, rfl, rfl, fun _ _ => rfl⟩
  · trivial
def nsetS : FSpec := fun ds _ => match ds with
  | [.b _c, .d I, .i n, .b e, .f f, .i x, .i lo, .i hi] => some { val := .one (.agg [.c (.bool (.sym (metZ n x lo hi (fgZ n x (e, f)) : Zs).1)), .c (.rows 53 (itD (I.len) (n) (metZ n x lo hi (fgZ n x (e, f))))), .c (.int .i64 (.sym (n))), .c (.bool (.sym (metZ n x lo hi (fgZ n x (e, f)) : Zs).1)), .ints .i64 (.lit 49) (metZ n x lo hi (fgZ n x (e, f)) : Zs).2]), vc := [Good n (e, f), I.len ≤ 1000] }
  | _ => none
def nsetC : Con := con [numA, iA, itvA] nsetS
theorem nset_ok : ConOK Try.prog 28 nsetC := by
  refine fn_ob tt_ok mixed Try.func28 rfl (fun _ _ => by kernel_rfl) (A := fun ds => ⟨fun _ => Cons.of [(53, forgetC), (52, metC), (40, nofC)], fun _ => none, fun _ => none⟩) (fun _ _ => (cons_cons forget_ok (cons_cons met_ok (cons_cons nof_ok cons_nil)))) (by kernel_rfl) ?_
  intro ds fr
  unfold nsetS
  split
  · rename_i c I n e f x lo hi
    refine kmp (q := Good n (e, f) →
 I.len ≤ (1000 : Nat) →
 Sm f ∧
 Good n (e, forgetF n e f x) ∧
 Sm (metZ n x lo hi (e, forgetF n e f x)).snd ∧
 ((0 : Int) ≤ (↑I.len : Int) ∧ (↑I.len : Int) ≤ (1000 : Int)) ∧
 (metZ n x lo hi (e, forgetF n e f x)).fst = (metZ n x lo hi (fgZ n x (e, f))).fst ∧
 List.map
 (fun (j : Nat) =>
 [D.i (itvLo n (metZ n x lo hi (e, forgetF n e f x)).fst (metZ n x lo hi (e, forgetF n e f x)).snd (↑j : Int)),
 D.i (itvHi n (metZ n x lo hi (e, forgetF n e f x)).fst (metZ n x lo hi (e, forgetF n e f x)).snd (↑j : Int))])
 (List.range (↑I.len : Int).toNat) =
 List.map
 (fun (j : Nat) =>
 [D.i (itvLo n (metZ n x lo hi (fgZ n x (e, f))).fst (metZ n x lo hi (fgZ n x (e, f))).snd (↑j : Int)),
 D.i (itvHi n (metZ n x lo hi (fgZ n x (e, f))).fst (metZ n x lo hi (fgZ n x (e, f))).snd (↑j : Int))])
 (List.range I.len) ∧
 n = n ∧
 (metZ n x lo hi (e, forgetF n e f x)).fst = (metZ n x lo hi (fgZ n x (e, f))).fst ∧
 ∀ (o : Nat), o < nat_lit 49 → (metZ n x lo hi (e, forgetF n e f x)).snd o = (metZ n x lo hi (fgZ n x (e, f))).snd o) (by kernel_rfl) ?_
    simp only [true_and, Int.toNat_natCast]
    intro h hI
    have g1 := good_fg h x
    exact ⟨h.sm, g1, (good_met g1 x lo hi).sm, by omega, rfl, rfl, rfl, fun _ _ => rfl⟩
  · trivial
def nmeetS : FSpec := fun ds _ => match ds with
  | [.b _c, .d I, .i n, .b e, .f f, .i x, .i lo, .i hi] => some { val := .one (.agg [.c (.bool (.sym (metZ n x lo hi (e, f) : Zs).1)), .c (.rows 53 (itD (I.len) (n) (metZ n x lo hi (e, f)))), .c (.int .i64 (.sym (n))), .c (.bool (.sym (metZ n x lo hi (e, f) : Zs).1)), .ints .i64 (.lit 49) (metZ n x lo hi (e, f) : Zs).2]), vc := [Good n (e, f), I.len ≤ 1000] }
  | _ => none
def nmeetC : Con := con [numA, iA, itvA] nmeetS
theorem nmeet_ok : ConOK Try.prog 30 nmeetC := by
  refine fn_ob tt_ok mixed Try.func30 rfl (fun _ _ => by kernel_rfl) (A := fun ds => ⟨fun _ => Cons.of [(52, metC), (40, nofC)], fun _ => none, fun _ => none⟩) (fun _ _ => (cons_cons met_ok (cons_cons nof_ok cons_nil))) (by kernel_rfl) ?_
  intro ds fr
  unfold nmeetS
  split
  · rename_i c I n e f x lo hi
    refine kmp (q := Good n (e, f) →
 I.len ≤ (1000 : Nat) →
 Good n (e, f) ∧
 Sm (metZ n x lo hi (e, f)).snd ∧
 ((0 : Int) ≤ (↑I.len : Int) ∧ (↑I.len : Int) ≤ (1000 : Int)) ∧
 (metZ n x lo hi (e, f)).fst = (metZ n x lo hi (e, f)).fst ∧
 List.map
 (fun (j : Nat) =>
 [D.i (itvLo n (metZ n x lo hi (e, f)).fst (metZ n x lo hi (e, f)).snd (↑j : Int)),
 D.i (itvHi n (metZ n x lo hi (e, f)).fst (metZ n x lo hi (e, f)).snd (↑j : Int))])
 (List.range (↑I.len : Int).toNat) =
 List.map
 (fun (j : Nat) =>
 [D.i (itvLo n (metZ n x lo hi (e, f)).fst (metZ n x lo hi (e, f)).snd (↑j : Int)),
 D.i (itvHi n (metZ n x lo hi (e, f)).fst (metZ n x lo hi (e, f)).snd (↑j : Int))])
 (List.range I.len) ∧
 n = n ∧
 (metZ n x lo hi (e, f)).fst = (metZ n x lo hi (e, f)).fst ∧
 ∀ (o : Nat), o < nat_lit 49 → (metZ n x lo hi (e, f)).snd o = (metZ n x lo hi (e, f)).snd o) (by kernel_rfl) ?_
    simp only [and_true, implies_true, Int.toNat_natCast, and_self]
    intro h hI
    exact ⟨h, (good_met h x lo hi).sm, by omega, by omega⟩
  · trivial
def ncopyS : FSpec := fun ds _ => match ds with
  | [.b _c, .d I, .i n, .b e, .f f, .i x, .i y, .i b] => some { val := .one (.agg [.c (.bool (.sym (copyZ n x y b (e, f) : Zs).1)), .c (.rows 53 (itD (I.len) (n) (copyZ n x y b (e, f)))), .c (.int .i64 (.sym (n))), .c (.bool (.sym (copyZ n x y b (e, f) : Zs).1)), .ints .i64 (.lit 49) (copyZ n x y b (e, f) : Zs).2]), vc := [Good n (e, f), I.len ≤ 1000] }
  | _ => none
def ncopyC : Con := con [numA, iA, iA, iA] ncopyS
theorem ncopy_ok : ConOK Try.prog 31 ncopyC := by
  refine fn_ob tt_ok mixed Try.func31 rfl (fun _ _ => by kernel_rfl) (A := fun ds => ⟨fun _ => Cons.of [(55, copyC), (40, nofC)], fun _ => none, fun _ => none⟩) (fun _ _ => (cons_cons copy_ok (cons_cons nof_ok cons_nil))) (by kernel_rfl) ?_
  intro ds fr
  unfold ncopyS
  split
  · rename_i c I n e f x y b
    refine kmp (q := Good n (e, f) →
 I.len ≤ (1000 : Nat) →
 Good n (e, f) ∧
 Sm (copyZ n x y b (e, f)).snd ∧
 ((0 : Int) ≤ (↑I.len : Int) ∧ (↑I.len : Int) ≤ (1000 : Int)) ∧
 (copyZ n x y b (e, f)).fst = (copyZ n x y b (e, f)).fst ∧
 List.map
 (fun (j : Nat) =>
 [D.i (itvLo n (copyZ n x y b (e, f)).fst (copyZ n x y b (e, f)).snd (↑j : Int)),
 D.i (itvHi n (copyZ n x y b (e, f)).fst (copyZ n x y b (e, f)).snd (↑j : Int))])
 (List.range (↑I.len : Int).toNat) =
 List.map
 (fun (j : Nat) =>
 [D.i (itvLo n (copyZ n x y b (e, f)).fst (copyZ n x y b (e, f)).snd (↑j : Int)),
 D.i (itvHi n (copyZ n x y b (e, f)).fst (copyZ n x y b (e, f)).snd (↑j : Int))])
 (List.range I.len) ∧
 n = n ∧
 (copyZ n x y b (e, f)).fst = (copyZ n x y b (e, f)).fst ∧
 ∀ (o : Nat), o < nat_lit 49 → (copyZ n x y b (e, f)).snd o = (copyZ n x y b (e, f)).snd o) (by kernel_rfl) ?_
    simp only [and_true, implies_true, Int.toNat_natCast, and_self]
    intro h hI
    exact ⟨h, (good_copy h x y b).sm, by omega, by omega⟩
  · trivial
def nboundS : FSpec := fun ds _ => match ds with
  | [.b _c, .d I, .i n, .b e, .f f, .i x, .i y, .i b] => some { val := .one (.agg [.c (.bool (.sym (bndZ n x y b (e, f) : Zs).1)), .c (.rows 53 (itD (I.len) (n) (bndZ n x y b (e, f)))), .c (.int .i64 (.sym (n))), .c (.bool (.sym (bndZ n x y b (e, f) : Zs).1)), .ints .i64 (.lit 49) (bndZ n x y b (e, f) : Zs).2]), vc := [Good n (e, f), I.len ≤ 1000] }
  | _ => none
def nboundC : Con := con [numA, iA, iA, iA] nboundS
theorem nbound_ok : ConOK Try.prog 32 nboundC := by
  refine fn_ob tt_ok mixed Try.func32 rfl (fun _ _ => by kernel_rfl) (A := fun ds => ⟨fun _ => Cons.of [(46, boundC), (40, nofC)], fun _ => none, fun _ => none⟩) (fun _ _ => (cons_cons bound_ok (cons_cons nof_ok cons_nil))) (by kernel_rfl) ?_
  intro ds fr
  unfold nboundS
  split
  · rename_i c I n e f x y b
    refine kmp (q := Good n (e, f) →
 I.len ≤ (1000 : Nat) →
 Sm f ∧
 Sm (bndF n e f x y b) ∧
 ((0 : Int) ≤ (↑I.len : Int) ∧ (↑I.len : Int) ≤ (1000 : Int)) ∧
 bndC n e f x y b = (bndZ n x y b (e, f)).fst ∧
 List.map
 (fun (j : Nat) =>
 [D.i (itvLo n (bndC n e f x y b) (bndF n e f x y b) (↑j : Int)), D.i (itvHi n (bndC n e f x y b) (bndF n e f x y b) (↑j : Int))])
 (List.range (↑I.len : Int).toNat) =
 List.map
 (fun (j : Nat) =>
 [D.i (itvLo n (bndZ n x y b (e, f)).fst (bndZ n x y b (e, f)).snd (↑j : Int)),
 D.i (itvHi n (bndZ n x y b (e, f)).fst (bndZ n x y b (e, f)).snd (↑j : Int))])
 (List.range I.len) ∧
 n = n ∧ bndC n e f x y b = (bndZ n x y b (e, f)).fst ∧ ∀ (o : Nat), o < nat_lit 49 → bndF n e f x y b o = (bndZ n x y b (e, f)).snd o) (by kernel_rfl) ?_
    simp only [true_and, Int.toNat_natCast]
    intro h hI
    exact ⟨h.sm, (good_bnd h x y b).sm, by omega, rfl, rfl, rfl, fun _ _ => rfl⟩
  · trivial
def njoinS : FSpec := fun ds _ => match ds with
  | [.b _c, .d I, .i n, .b e, .f f, .b _c2, .d _I2, .i m, .b e2, .f g] => some { val := .one (.agg [.c (.bool (.sym ((jnC n e m e2, jnF n e f m e2 g) : Zs).1)), .c (.rows 53 (itD (I.len) (n) ((jnC n e m e2, jnF n e f m e2 g)))), .c (.int .i64 (.sym (n))), .c (.bool (.sym ((jnC n e m e2, jnF n e f m e2 g) : Zs).1)), .ints .i64 (.lit 49) ((jnC n e m e2, jnF n e f m e2 g) : Zs).2]), vc := [Good n (e, f), Good m (e2, g), I.len ≤ 1000] }
  | _ => none
def njoinC : Con := con [numA, numA] njoinS
theorem njoin_ok : ConOK Try.prog 20 njoinC := by
  refine fn_ob tt_ok mixed Try.func20 rfl (fun _ _ => by kernel_rfl) (A := fun ds => ⟨fun _ => Cons.of [(49, joinC), (40, nofC)], fun _ => none, fun _ => none⟩) (fun _ _ => (cons_cons join_ok (cons_cons nof_ok cons_nil))) (by kernel_rfl) ?_
  intro ds fr
  unfold njoinS
  split
  · rename_i c I n e f c2 I2 m e2 g
    refine kmp (q := Good n (e, f) →
 Good m (e2, g) →
 I.len ≤ (1000 : Nat) →
 Sm (jnF n e f m e2 g) ∧
 ((0 : Int) ≤ (↑I.len : Int) ∧ (↑I.len : Int) ≤ (1000 : Int)) ∧
 jnC n e m e2 = jnC n e m e2 ∧
 List.map (fun (j : Nat) => [D.i (itvLo n (jnC n e m e2) (jnF n e f m e2 g) (↑j : Int)), D.i (itvHi n (jnC n e m e2) (jnF n e f m e2 g) (↑j : Int))])
 (List.range (↑I.len : Int).toNat) =
 List.map
 (fun (j : Nat) => [D.i (itvLo n (jnC n e m e2) (jnF n e f m e2 g) (↑j : Int)), D.i (itvHi n (jnC n e m e2) (jnF n e f m e2 g) (↑j : Int))])
 (List.range I.len) ∧
 n = n ∧ jnC n e m e2 = jnC n e m e2 ∧ ∀ (o : Nat), o < nat_lit 49 → jnF n e f m e2 g o = jnF n e f m e2 g o) (by kernel_rfl) ?_
    simp only [and_true, implies_true, Int.toNat_natCast, and_self]
    intro h h2 hI
    exact ⟨sm_jn h h2, by omega, by omega⟩
  · trivial
def nwidenS : FSpec := fun ds _ => match ds with
  | [.b _c, .d I, .i n, .b e, .f f, .b _c2, .d _I2, .i m, .b e2, .f g] => some { val := .one (.agg [.c (.bool (.sym ((widC n e f m e2 g, widF n e f m e2 g) : Zs).1)), .c (.rows 53 (itD (I.len) (n) ((widC n e f m e2 g, widF n e f m e2 g)))), .c (.int .i64 (.sym (n))), .c (.bool (.sym ((widC n e f m e2 g, widF n e f m e2 g) : Zs).1)), .ints .i64 (.lit 49) ((widC n e f m e2 g, widF n e f m e2 g) : Zs).2]), vc := [Good n (e, f), Good m (e2, g), I.len ≤ 1000] }
  | _ => none
def nwidenC : Con := con [numA, numA] nwidenS
theorem nwiden_ok : ConOK Try.prog 22 nwidenC := by
  refine fn_ob tt_ok mixed Try.func22 rfl (fun _ _ => by kernel_rfl) (A := fun ds => ⟨fun _ => Cons.of [(50, widenC), (40, nofC)], fun _ => none, fun _ => none⟩) (fun _ _ => (cons_cons widen_ok (cons_cons nof_ok cons_nil))) (by kernel_rfl) ?_
  intro ds fr
  unfold nwidenS
  split
  · rename_i c I n e f c2 I2 m e2 g
    refine kmp (q := Good n (e, f) →
 Good m (e2, g) →
 I.len ≤ (1000 : Nat) →
 Sm f ∧
 Sm g ∧
 Sm (widF n e f m e2 g) ∧
 ((0 : Int) ≤ (↑I.len : Int) ∧ (↑I.len : Int) ≤ (1000 : Int)) ∧
 widC n e f m e2 g = widC n e f m e2 g ∧
 List.map
 (fun (j : Nat) =>
 [D.i (itvLo n (widC n e f m e2 g) (widF n e f m e2 g) (↑j : Int)), D.i (itvHi n (widC n e f m e2 g) (widF n e f m e2 g) (↑j : Int))])
 (List.range (↑I.len : Int).toNat) =
 List.map
 (fun (j : Nat) =>
 [D.i (itvLo n (widC n e f m e2 g) (widF n e f m e2 g) (↑j : Int)), D.i (itvHi n (widC n e f m e2 g) (widF n e f m e2 g) (↑j : Int))])
 (List.range I.len) ∧
 n = n ∧ widC n e f m e2 g = widC n e f m e2 g ∧ ∀ (o : Nat), o < nat_lit 49 → widF n e f m e2 g o = widF n e f m e2 g o) (by kernel_rfl) ?_
    simp only [and_true, implies_true, Int.toNat_natCast, and_self]
    intro h h2 hI
    exact ⟨h.sm, h2.sm, sm_wd h h2, by omega, by omega⟩
  · trivial
def nwithinS : FSpec := fun ds _ => match ds with
  | [.b _c, .d _I, .i n, .b e, .f f, .b _c2, .d _I2, .i m, .b e2, .f g] => some { val := .one (.sc (.bool (.sym (withinP n e f m e2 g)))), vc := [] }
  | _ => none
def nwithinC : Con := con [numA, numA] nwithinS
theorem nwithin_ok : ConOK Try.prog 24 nwithinC := by
  refine fn_ob tt_ok mixed Try.func24 rfl (fun _ _ => by kernel_rfl) (A := fun ds => ⟨fun _ => Cons.of [(51, withinC)], fun _ => none, fun _ => none⟩) (fun _ _ => (cons_cons within_ok cons_nil)) (by kernel_rfl) ?_
  intro ds fr
  unfold nwithinS
  split
  · rename_i c I n e f c2 I2 m e2 g
    refine kmp (q := withinP n e f m e2 g = withinP n e f m e2 g) (by kernel_rfl) ?_
    rfl
  · trivial
end Go.Proofs.Ytefdfggkhnahiaa.Sx.Z
