/-
  ast: how deep systems are; the writer's put.
-/
import Derived.Test.YtomodncooiddaaaDoorLf
import Derived.Test.YtomodncooiddaaaDoorLs
import Derived.Lib.ItoaLen
import Derived.Lib.AppendIntMem
namespace Go.Proofs.YtomodncooiddaaaDoor.Sx.Z
open Go.RowKit
def prNE (d : D) (i : Nat) : Bool := bN (d.el i 2) 0
def syN (pr : D) : Bool := allB pr.len (prNE pr)
def itW (n : Int) : ByteArray := ⟨(Lib.itoa n).toArray⟩
/-- A number that an int can be. -/
def nI (n : Int) : Prop := -9223372036854775808 ≤ n ∧ n ≤ 9223372036854775807
def sR (s : ByteArray) : List D := [D.s s]
/-- Words behind words: no more than there may be. -/
def cat (w : D) (l : List ByteArray) : D := .l ((w.rows ++ l.map sR).take 2001)
def wsL (ws : D) (n : Nat) : List ByteArray := (List.range n).map fun j => (ws.el j 0).toS
theorem cat_len (w : D) (l : List ByteArray) : (cat w l).len = min 2001 (w.len + l.length) := by
  show ((w.rows ++ l.map sR).take 2001).length = _
  rw [List.length_take, List.length_append, List.length_map]; rfl
theorem cat_le (w : D) (l : List ByteArray) : (cat w l).len ≤ 2001 := by rw [cat_len]; omega
theorem cat_cat (w : D) (l m : List ByteArray) : cat (cat w l) m = cat w (l ++ m) := by
  unfold cat
  congr 1
  show (((w.rows ++ l.map sR).take 2001) ++ m.map sR).take 2001 = _
  rw [List.map_append, ← List.append_assoc]
  rw [List.take_append (l₁ := (w.rows ++ l.map sR).take 2001), List.take_append (l₁ := w.rows ++ l.map sR), List.take_take, List.length_take, Nat.min_self]
  congr 1
  rcases Nat.le_total 2001 (w.rows ++ l.map sR).length with h | h
  · rw [Nat.min_eq_left h, Nat.sub_self, show 2001 - (w.rows ++ l.map sR).length = 0 by omega]
  · rw [Nat.min_eq_right h]
theorem cat_one {w : D} (h : w.len ≤ 2000) (s : ByteArray) : cat w [s] = .l (w.rows ++ [[D.s s]]) := by
  unfold cat
  rw [List.take_of_length_le]; · rfl
  rw [List.length_append]
  have : w.rows.length = w.len := rfl
  simp; omega
theorem cat_full {w : D} (h : w.len = 2001) (l : List ByteArray) : cat w l = w := by
  unfold cat
  rw [List.take_append_of_le_length (by show 2001 ≤ w.rows.length; rw [show w.rows.length = w.len from rfl]; omega), List.take_of_length_le (by rw [show w.rows.length = w.len from rfl]; omega)]
  cases w with
  | l r => rfl
  | i n => exact absurd (show (0 : Nat) = 2001 from h) (by decide)
  | b n => exact absurd (show (0 : Nat) = 2001 from h) (by decide)
  | s n => exact absurd (show (0 : Nat) = 2001 from h) (by decide)
noncomputable def sydS : FSpec := fun ds _ => match ds with
  | [.d ch, .d ru, .d pr] => some { val := .one (.sc (.bool (.sym (!syN pr)))), vc := [SyOK ch ru pr, syB ch ru pr = true] }
  | _ => none
noncomputable def sydC : Con := con [lSy] sydS
theorem syd_ok : ConOK Tryd.prog 23 sydC := by
  refine fn_ob tt_ok mixed Tryd.func23 rfl (fun _ _ => by kernel_rfl) (A := fun ds => ⟨fun _ => Cons.of [(48, bddC)], fun k => match k, ds with | 2, [.d ch, .d ru, .d pr] => some { ι := Nat, pre := fun _ i => i ≤ pr.len ∧ ∀ j, j < i → prNE pr j = true, μ := fun i => pr.len - i, st := fun s i => famR s [(8, .one (.sc (.int .i64 (.sym ((i : Int))))))] [6, 7] [] [] } | _, _ => none, fun _ => none⟩) (fun _ _ => (cons_cons bdd_ok cons_nil)) (by kernel_rfl) ?_
  intro ds fr
  unfold sydS
  split
  · rename_i ch ru pr
    refine kmp (q := SyOK ch ru pr →
 syB ch ru pr = true →
 (∃ (i : Nat), (i ≤ pr.len ∧ ∀ (j : Nat), j < i → prNE pr j = true) ∧ (0 : Int) = (↑i : Int) ∧ pr.rows = pr.rows ∧ (↑pr.len : Int) = (↑pr.len : Int)) ∧
 ∀ (i : Nat),
 (i ≤ pr.len ∧ ∀ (j : Nat), j < i → prNE pr j = true) →
 (decide ((↑i : Int) < (↑pr.len : Int)) = true →
 ((0 : Int) ≤ (↑i : Int) ∧ (↑i : Int) < (↑pr.len : Int)) ∧
 sOK (pr.el (↑i : Int).toNat ((0 : Nat) + (1 : Nat) + (1 : Nat))) ∧
 bA (pr.el (↑i : Int).toNat ((0 : Nat) + (1 : Nat) + (1 : Nat))) = true ∧
 ((0 : Int) ≤ (0 : Int) ∧ (0 : Int) ≤ (24 : Int)) ∧
 ((!bN (pr.el (↑i : Int).toNat ((0 : Nat) + (1 : Nat) + (1 : Nat))) (0 : Int)) = true → true = !syN pr) ∧
 ((!bN (pr.el (↑i : Int).toNat ((0 : Nat) + (1 : Nat) + (1 : Nat))) (0 : Int)) = false →
 ∃ (j : Nat),
 (j ≤ pr.len ∧ ∀ (j_1 : Nat), j_1 < j → prNE pr j_1 = true) ∧
 pr.len - j < pr.len - i ∧
 IntKind.i64.wrap ((↑i : Int) + (1 : Int)) = (↑j : Int) ∧ pr.rows = pr.rows ∧ (↑pr.len : Int) = (↑pr.len : Int))) ∧
 (decide ((↑i : Int) < (↑pr.len : Int)) = false → false = !syN pr)) (by kernel_rfl) ?_
    intro hs hr
    unfold syB at hr
    simp only [Bool.and_eq_true] at hr
    have hpr := allB_iff.1 hr.2.2
    have e0 : ∀ (i : Nat), ((i : Int)).toNat = i := fun i => Int.toNat_natCast i
    simp only [Nat.zero_add, Nat.reduceAdd, e0]
    unfold syN
    refine ⟨⟨0, ⟨Nat.zero_le _, fun j hj => absurd hj (Nat.not_lt_zero j)⟩, by (repeat' apply And.intro) <;> first | trivial | rfl | (intro _ _; rfl) | (intro _ _; trivial)⟩, fun i hp => ⟨fun hl => ?_, fun hl => ?_⟩⟩
    · have hl := of_decide_eq_true hl
      have hb := hs.p
      have hi : i < pr.len := by omega
      have hw : IntKind.i64.wrap ((i : Int) + 1) = ((i + 1 : Nat) : Int) := by rw [IntWalk.i64_in _ (by omega)]; omega
      have v2 := hs.pb i hi
      have r1 := hpr i hi
      unfold prE at r1
      simp only [Bool.and_eq_true] at r1
      refine ⟨⟨by omega, by omega⟩, v2, r1.2, by omega, fun hq => ?_, fun hq => ?_⟩
      · have hq : prNE pr i = false := by rw [Bool.not_eq_true'] at hq; exact hq
        rw [allB_no hi hq]; rfl
      · have hq : prNE pr i = true := by rw [Bool.not_eq_false'] at hq; exact hq
        refine ⟨i + 1, ⟨by omega, fun j hj => ?_⟩, by omega, hw, by (repeat' apply And.intro) <;> first | trivial | rfl | (intro _ _; rfl) | (intro _ _; trivial)⟩
        rcases Nat.lt_or_ge j i with h | h
        · exact hp.2 j h
        · obtain rfl : j = i := by omega
          exact hq
    · have hl := of_decide_eq_false hl
      have hall : allB pr.len (prNE pr) = true := allB_yes fun j hj => hp.2 j (by omega)
      rw [hall]; rfl
  · trivial
noncomputable def itS : FSpec := fun ds _ => match ds with
  | [.i n] => some { val := .one (.sc (.raw (.string (itW n)))), vc := [nI n] }
  | _ => none
noncomputable def itC : Con := con [lI] itS
noncomputable def clS : FSpec := fun ds _ => match ds with
  | [.s s] => some { val := .one (.sc (.raw (.string (s)))), vc := [s.size ≤ 281474976710656] }
  | _ => none
noncomputable def clC : Con := con [.sc .str] clS
theorem it_ok : ConOK Tryd.prog 35 itC := by
  refine ⟨fun _ _ => by kernel_rfl, fun hp fr args e he hv w0 w ρ vs hw _ ha => ?_, fun _ _ _ _ h => nomatch (con_jf _ _ _ _ _).symm.trans h⟩
  unfold itC con at he
  split at he
  · rename_i ds ps hds
    split at he
    · rename_i e1 he1
      unfold itS at he1
      split at he1
      · rename_i n
        obtain rfl := Option.some.inj he1
        obtain rfl := Option.some.inj he
        obtain ⟨hp1, hp2⟩ := all_append.1 hv
        obtain ⟨svs, h, ρ1, id, hun, _, _, hrel⟩ := unP_spec hw [lI] args _ ps hds hp1 vs ha (ids := keepOwn hp (idsX hp args)) (fun i hi ho => keepOwn_mem.2 ⟨hi, ho⟩) 0
        obtain rfl : svs = _ := (congrArg Prod.fst (Option.some.inj hun)).symm
        match vs, hrel with
        | [x], ⟨hx, _⟩ =>
          have hx : x = .int .i64 n := hx
          subst hx
          obtain ⟨hn, _⟩ := hp2
          obtain ⟨g, hg⟩ := Option.isSome_iff_exists.1 (show (PG.globalNamed "internal/strconv.uint64pow10").isSome = true by kernel_rfl)
          have ht := hw.tab g _ ⟨hg, rfl⟩
          rw [← hw.f00] at ht
          obtain ⟨T, z, hh⟩ := hw.froz _ _ (hw.sub _ _ ht)
          have htab : Lib.TabIs Tryd.prog w "internal/strconv.uint64pow10" .u64 Lib.pow10Tab := by
            have hg' : Tryd.prog.globalNamed "internal/strconv.uint64pow10" = some g := hg
            unfold Lib.TabIs World.var?
            rw [hg']
            show (match w.heap[g]? with | some (.cells cs _ _) => some cs | _ => none) = _
            rw [hh]
          refine (Tryd.strconv_Itoa n hn.1 hn.2 w htab).mono ?_
          rintro en w' ⟨rfl, k, os, rfl⟩
          have hb := Lib.below_grow w.heap.size w (Nat.le_refl _) k os
          refine ⟨ρ, _, rfl, rfl, ⟨fun _ _ h => h, fun _ _ => rfl, fun _ _ h => h, rfl, rfl⟩, fun _ _ => rfl, hb.mono (Nat.zero_le _), fun b hlt _ => hb.block b hlt, fun i x hx => ?_, fun i x hx => ?_, fun i j x y hx => ?_, fun b cs hcs => .inl hcs⟩
          · cases hx
          · cases hx
          · cases hx
      · cases he1
    · cases he
  · cases he
theorem cl_ok : ConOK Tryd.prog 29 clC := by
  refine ⟨fun _ _ => by kernel_rfl, fun hp fr args e he hv w0 w ρ vs hw _ ha => ?_, fun _ _ _ _ h => nomatch (con_jf _ _ _ _ _).symm.trans h⟩
  unfold clC con at he
  split at he
  · rename_i ds ps hds
    split at he
    · rename_i e1 he1
      unfold clS at he1
      split at he1
      · rename_i s
        obtain rfl := Option.some.inj he1
        obtain rfl := Option.some.inj he
        obtain ⟨hp1, hp2⟩ := all_append.1 hv
        obtain ⟨svs, h, ρ1, id, hun, _, _, hrel⟩ := unP_spec hw [.sc .str] args _ ps hds hp1 vs ha (ids := keepOwn hp (idsX hp args)) (fun i hi ho => keepOwn_mem.2 ⟨hi, ho⟩) 0
        obtain rfl : svs = _ := (congrArg Prod.fst (Option.some.inj hun)).symm
        match vs, hrel with
        | [x], ⟨hx, _⟩ =>
          have hx : x = .string s := hx
          subst hx
          refine (clone_any s w hp2.1).mono ?_
          rintro en w' ⟨rfl, hb⟩
          refine ⟨ρ, _, rfl, rfl, ⟨fun _ _ h => h, fun _ _ => rfl, fun _ _ h => h, rfl, rfl⟩, fun _ _ => rfl, hb.mono (Nat.zero_le _), fun b hlt _ => hb.block b hlt, fun i x hx => ?_, fun i x hx => ?_, fun i j x y hx => ?_, fun b cs hcs => .inl hcs⟩
          · cases hx
          · cases hx
          · cases hx
      · cases he1
    · cases he
  · cases he
end Go.Proofs.YtomodncooiddaaaDoor.Sx.Z
