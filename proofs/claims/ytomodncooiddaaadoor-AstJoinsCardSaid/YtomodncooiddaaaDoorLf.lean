/-
  ast: how deep statements are.
-/
import Derived.Test.YtomodncooiddaaaDoorLe
namespace Go.Proofs.YtomodncooiddaaaDoor.Sx.Z
open Go.RowKit
def cN (lk : Int) (ld : D) (rk : Int) (rd : D) : Bool := xN lk ld 0 && xN rk rd 0
def stNF (k : Int) (e c b el a : Bool) : Bool := if k = 1 ∨ k = 4 then e else if k = 6 then c else if k = 2 then c && b && el else if k = 3 then c && b else if k = 5 then a else true
/-- Not too deep. -/
def bN (d : D) (b : Int) : Bool := (List.finRange d.len).all fun (i : Fin d.len) => stNF (d.el i 0).toI (xN (d.el i 3).toI (d.el i 6) 0) (cN (d.el i 8).toI (d.el i 11) (d.el i 12).toI (d.el i 15)) (!decide (b ≥ 24) && bN (d.el i 16) (b + 1)) (bN (d.el i 17) (b + 1))
    ((List.finRange (d.el i 18).len).all fun (j : Fin (d.el i 18).len) => !decide (b ≥ 24) && bN ((d.el i 18).el j 2) (b + 1))
  termination_by SizeOf.sizeOf d
  decreasing_by
    · exact lel_lt i.isLt
    · exact lel_lt i.isLt
    · exact Nat.lt_trans (lel_lt j.isLt) (lel_lt i.isLt)
def blN (d : D) (b : Int) : Bool := !decide (b ≥ 24) && bN d (b + 1)
def amNE (am : D) (b : Int) (j : Nat) : Bool := blN (am.el j 2) b
def amN (am : D) (b : Int) : Bool := allB am.len (amNE am b)
def stN (k : Int) (_nm _tg : ByteArray) (ek _en : Int) (_es : ByteArray) (ed : D) (_op lk _ln : Int) (_ls : ByteArray) (ld : D) (rk _rn : Int) (_rs : ByteArray) (rd bd eb am : D) (b : Int) : Bool :=
  stNF k (xN ek ed 0) (cN lk ld rk rd) (blN bd b) (bN eb (b + 1)) (amN am b)
def stNE (d : D) (b : Int) (i : Nat) : Bool := stN (d.el i 0).toI (d.el i 1).toS (d.el i 2).toS (d.el i 3).toI (d.el i 4).toI (d.el i 5).toS (d.el i 6) (d.el i 7).toI (d.el i 8).toI (d.el i 9).toI (d.el i 10).toS (d.el i 11) (d.el i 12).toI (d.el i 13).toI (d.el i 14).toS (d.el i 15) (d.el i 16) (d.el i 17) (d.el i 18) b
theorem bN_eq (d : D) (b : Int) : bN d b = allB d.len (stNE d b) := by
  rw [bN, ← allF_eq]
  congr 1
  funext i
  unfold stNE stN amN
  rw [← allF_eq]
  rfl
theorem aC_two {op lk ln rk rn : Int} {ls rs : ByteArray} {ld rd : D} (h : aC op lk ln ls ld rk rn rs rd = true) : aX lk ln ls ld = true ∧ aX rk rn rs rd = true := by
  unfold aC at h
  simp only [Bool.and_eq_true] at h
  exact ⟨h.1.2, h.2⟩
noncomputable def cdrS : FSpec := fun ds _ => match ds with
  | [.i op, .i lk, .i ln, .s ls, .d ld, .i rk, .i rn, .s rs, .d rd] => some { val := .one (.sc (.bool (.sym (!cN lk ld rk rd)))), vc := [aC op lk ln ls ld rk rn rs rd = true] }
  | _ => none
noncomputable def cdrC : Con := con [lCo] cdrS
theorem cdr_ok : ConOK Tryd.prog 80 cdrC := by
  refine fn_ob tt_ok mixed Tryd.func80 rfl (fun _ _ => by kernel_rfl) (A := fun ds => ⟨fun _ => Cons.of [(79, xdrC)], fun _ => none, fun _ => none⟩) (fun _ _ => (cons_cons xdr_ok cons_nil)) (by kernel_rfl) ?_
  intro ds fr
  unfold cdrS
  split
  · rename_i op lk ln ls ld rk rn rs rd
    refine kmp (q := aC op lk ln ls ld rk rn rs rd = true →
 aX lk ln ls ld = true ∧
 ((0 : Int) ≤ (0 : Int) ∧ (0 : Int) ≤ (30 : Int)) ∧
 ((!xN lk ld (0 : Int)) = false ∧ True → aX rk rn rs rd = true) ∧
 ((!xN lk ld (0 : Int)) = false ∧ True → (0 : Int) ≤ (0 : Int) ∧ (0 : Int) ≤ (30 : Int)) ∧ (!xN lk ld (0 : Int) || !xN rk rd (0 : Int)) = !cN lk ld rk rd) (by kernel_rfl) ?_
    intro h
    have h2 := aC_two h
    refine ⟨h2.1, by omega, fun _ => h2.2, fun _ => by omega, ?_⟩
    unfold cN
    rw [Bool.not_and]
  · trivial
noncomputable def bddS : FSpec := fun ds _ => match ds with
  | [.d d, .i b] => some { val := .one (.sc (.bool (.sym (!bN d b)))), vc := [sOK d, bA d = true, 0 ≤ b ∧ b ≤ 24] }
  | _ => none
noncomputable def bddC : Con := con [lBo, lI] bddS
noncomputable def bddM : List Dat → Nat := fun ds => match ds with
  | [.d d, .i _b] => SizeOf.sizeOf d
  | _ => 0
noncomputable def bddSu (m : Nat) : FSpec := fun ds _ => match ds with
  | [.d d, .i b] => some { val := .one (.sc (.bool (.sym (!bN d b)))), vc := [SizeOf.sizeOf d < m, sOK d, bA d = true, 0 ≤ b ∧ b ≤ 24] }
  | _ => none
theorem bdd_under (m : Nat) : bddS.under bddM m = bddSu m := by
  funext ds fr
  unfold FSpec.under bddS bddM bddSu
  split
  · rename_i e h
    split at h
    · obtain rfl := Option.some.inj h; rfl
    · cases h
  · rename_i h
    split at h
    · cases h
    · rfl
noncomputable def bkdS (m : Nat) : FSpec := fun ds _ => match ds with
  | [.d d, .i b] => some { val := .one (.sc (.bool (.sym (!blN d b)))), vc := [SizeOf.sizeOf d < m, sOK d, bA d = true, 0 ≤ b ∧ b ≤ 24] }
  | _ => none
noncomputable def bkdC (m : Nat) : Con := con [lBo, lI] (bkdS m)
theorem bkd_ok {m : Nat} (ih : ConOK Tryd.prog 48 (con [lBo, lI] (bddSu m))) : ConOK Tryd.prog 81 (bkdC m) := by
  refine fn_ob tt_ok mixed Tryd.func81 rfl (fun _ _ => by kernel_rfl) (A := fun ds => ⟨fun _ => Cons.of [(48, con [lBo, lI] (bddSu m))], fun _ => none, fun _ => none⟩) (fun _ _ => (cons_cons ih cons_nil)) (by kernel_rfl) ?_
  intro ds fr
  unfold bkdS
  split
  · rename_i d b
    refine kmp (q := SizeOf.sizeOf d < m →
 sOK d →
 bA d = true →
 (0 : Int) ≤ b ∧ b ≤ (24 : Int) →
 (decide (b ≥ (24 : Int)) = false ∧ True → SizeOf.sizeOf d < m) ∧
 (decide (b ≥ (24 : Int)) = false ∧ True → sOK d) ∧
 (decide (b ≥ (24 : Int)) = false ∧ True → bA d = true) ∧
 (decide (b ≥ (24 : Int)) = false ∧ True → (0 : Int) ≤ IntKind.i64.wrap (b + (1 : Int)) ∧ IntKind.i64.wrap (b + (1 : Int)) ≤ (24 : Int)) ∧
 (decide (b ≥ (24 : Int)) || !bN d (IntKind.i64.wrap (b + (1 : Int)))) = !blN d b) (by kernel_rfl) ?_
    intro hm hs ha hb
    refine ⟨fun _ => hm, fun _ => hs, fun _ => ha, fun h => ?_, ?_⟩
    · have h := of_decide_eq_false h.1
      rw [IntWalk.i64_in _ (by omega)]; omega
    · rw [IntWalk.i64_in _ (by omega)]
      unfold blN
      rw [Bool.not_and, Bool.not_not]
  · trivial
noncomputable def sddS (m : Nat) : FSpec := fun ds _ => match ds with
  | [.i k, .s nm, .s tg, .i ek, .i en, .s es, .d ed, .i op, .i lk, .i ln, .s ls, .d ld, .i rk, .i rn, .s rs, .d rd, .d bd, .d eb, .d am, .i b] => some { val := .one (.sc (.bool (.sym (!stN k nm tg ek en es ed op lk ln ls ld rk rn rs rd bd eb am b)))), vc := [SizeOf.sizeOf bd < m, SizeOf.sizeOf eb < m, SizeOf.sizeOf am < m, sOK bd, sOK eb, amOK am, stA k nm tg ek en es ed op lk ln ls ld rk rn rs rd bd eb am = true, 0 ≤ b ∧ b ≤ 24] }
  | _ => none
noncomputable def sddC (m : Nat) : Con := con [lSt, lI] (sddS m)
theorem sdd_ok {m : Nat} (ih : ConOK Tryd.prog 48 (con [lBo, lI] (bddSu m))) : ConOK Tryd.prog 68 (sddC m) := by
  refine fn_ob tt_ok mixed Tryd.func68 rfl (fun _ _ => by kernel_rfl) (A := fun ds => ⟨fun _ => Cons.of [(79, xdrC), (80, cdrC), (81, (bkdC m)), (48, con [lBo, lI] (bddSu m))], fun k => match k, ds with | 13, [.i k, .s nm, .s tg, .i ek, .i en, .s es, .d ed, .i op, .i lk, .i ln, .s ls, .d ld, .i rk, .i rn, .s rs, .d rd, .d bd, .d eb, .d am, .i b] => some { ι := Nat, pre := fun _ i => i ≤ am.len ∧ ∀ j, j < i → amNE am b j = true, μ := fun i => am.len - i, st := fun s i => famR s [(54, .one (.sc (.int .i64 (.sym ((i : Int))))))] [1, 52, 53] [] [] } | _, _ => none, fun _ => none⟩) (fun _ _ => (cons_cons xdr_ok (cons_cons cdr_ok (cons_cons (bkd_ok ih) (cons_cons ih cons_nil))))) (by kernel_rfl) ?_
  intro ds fr
  unfold sddS
  split
  · rename_i k nm tg ek en es ed op lk ln ls ld rk rn rs rd bd eb am b
    refine kmp (q := SizeOf.sizeOf bd < m →
 SizeOf.sizeOf eb < m →
 SizeOf.sizeOf am < m →
 sOK bd →
 sOK eb →
 amOK am →
 stA k nm tg ek en es ed op lk ln ls ld rk rn rs rd bd eb am = true →
 (0 : Int) ≤ b ∧ b ≤ (24 : Int) →
 ((k == (1 : Int)) = true →
 ((k == (1 : Int)) = true →
 aX ek en es ed = true ∧
 ((0 : Int) ≤ (0 : Int) ∧ (0 : Int) ≤ (30 : Int)) ∧
 (!xN ek ed (0 : Int)) = !stN k nm tg ek en es ed op lk ln ls ld rk rn rs rd bd eb am b) ∧
 ((k == (1 : Int)) = false →
 ((k == (6 : Int)) = true →
 aC op lk ln ls ld rk rn rs rd = true ∧ (!cN lk ld rk rd) = !stN k nm tg ek en es ed op lk ln ls ld rk rn rs rd bd eb am b) ∧
 ((k == (6 : Int)) = false →
 ((k == (2 : Int)) = true →
 aC op lk ln ls ld rk rn rs rd = true ∧
 ((!cN lk ld rk rd) = false ∧ True → SizeOf.sizeOf bd < m) ∧
 ((!cN lk ld rk rd) = false ∧ True → sOK bd) ∧
 ((!cN lk ld rk rd) = false ∧ True → bA bd = true) ∧
 ((!cN lk ld rk rd) = false ∧ True → (0 : Int) ≤ b ∧ b ≤ (24 : Int)) ∧
 ((!cN lk ld rk rd || !blN bd b) = false ∧ True → SizeOf.sizeOf eb < m) ∧
 ((!cN lk ld rk rd || !blN bd b) = false ∧ True → sOK eb) ∧
 ((!cN lk ld rk rd || !blN bd b) = false ∧ True → bA eb = true) ∧
 ((!cN lk ld rk rd || !blN bd b) = false ∧ True →
 (0 : Int) ≤ IntKind.i64.wrap (b + (1 : Int)) ∧ IntKind.i64.wrap (b + (1 : Int)) ≤ (24 : Int)) ∧
 (!cN lk ld rk rd || !blN bd b || !bN eb (IntKind.i64.wrap (b + (1 : Int)))) =
 !stN k nm tg ek en es ed op lk ln ls ld rk rn rs rd bd eb am b) ∧
 ((k == (2 : Int)) = false →
 ((k == (3 : Int)) = true →
 aC op lk ln ls ld rk rn rs rd = true ∧
 ((!cN lk ld rk rd) = false ∧ True → SizeOf.sizeOf bd < m) ∧
 ((!cN lk ld rk rd) = false ∧ True → sOK bd) ∧
 ((!cN lk ld rk rd) = false ∧ True → bA bd = true) ∧
 ((!cN lk ld rk rd) = false ∧ True → (0 : Int) ≤ b ∧ b ≤ (24 : Int)) ∧
 (!cN lk ld rk rd || !blN bd b) = !stN k nm tg ek en es ed op lk ln ls ld rk rn rs rd bd eb am b) ∧
 ((k == (3 : Int)) = false →
 ((k == (5 : Int)) = true →
 (∃ (i : Nat),
 (i ≤ am.len ∧ ∀ (j : Nat), j < i → amNE am b j = true) ∧
 (0 : Int) = (↑i : Int) ∧ b = b ∧ am.rows = am.rows ∧ (↑am.len : Int) = (↑am.len : Int)) ∧
 ∀ (i : Nat),
 (i ≤ am.len ∧ ∀ (j : Nat), j < i → amNE am b j = true) →
 (decide ((↑i : Int) < (↑am.len : Int)) = true →
 ((0 : Int) ≤ (↑i : Int) ∧ (↑i : Int) < (↑am.len : Int)) ∧
 SizeOf.sizeOf (am.el (↑i : Int).toNat ((0 : Nat) + (1 : Nat) + (1 : Nat))) < m ∧
 sOK (am.el (↑i : Int).toNat ((0 : Nat) + (1 : Nat) + (1 : Nat))) ∧
 bA (am.el (↑i : Int).toNat ((0 : Nat) + (1 : Nat) + (1 : Nat))) = true ∧
 ((0 : Int) ≤ b ∧ b ≤ (24 : Int)) ∧
 ((!blN (am.el (↑i : Int).toNat ((0 : Nat) + (1 : Nat) + (1 : Nat))) b) = true →
 true = !stN k nm tg ek en es ed op lk ln ls ld rk rn rs rd bd eb am b) ∧
 ((!blN (am.el (↑i : Int).toNat ((0 : Nat) + (1 : Nat) + (1 : Nat))) b) = false →
 ∃ (j : Nat),
 (j ≤ am.len ∧ ∀ (j_1 : Nat), j_1 < j → amNE am b j_1 = true) ∧
 am.len - j < am.len - i ∧
 IntKind.i64.wrap ((↑i : Int) + (1 : Int)) = (↑j : Int) ∧
 b = b ∧ am.rows = am.rows ∧ (↑am.len : Int) = (↑am.len : Int))) ∧
 (decide ((↑i : Int) < (↑am.len : Int)) = false →
 false = !stN k nm tg ek en es ed op lk ln ls ld rk rn rs rd bd eb am b)) ∧
 ((k == (5 : Int)) = false → false = !stN k nm tg ek en es ed op lk ln ls ld rk rn rs rd bd eb am b)))))) ∧
 ((k == (1 : Int)) = false →
 ((k == (4 : Int)) = true →
 aX ek en es ed = true ∧
 ((0 : Int) ≤ (0 : Int) ∧ (0 : Int) ≤ (30 : Int)) ∧
 (!xN ek ed (0 : Int)) = !stN k nm tg ek en es ed op lk ln ls ld rk rn rs rd bd eb am b) ∧
 ((k == (4 : Int)) = false →
 ((k == (6 : Int)) = true →
 aC op lk ln ls ld rk rn rs rd = true ∧ (!cN lk ld rk rd) = !stN k nm tg ek en es ed op lk ln ls ld rk rn rs rd bd eb am b) ∧
 ((k == (6 : Int)) = false →
 ((k == (2 : Int)) = true →
 aC op lk ln ls ld rk rn rs rd = true ∧
 ((!cN lk ld rk rd) = false ∧ True → SizeOf.sizeOf bd < m) ∧
 ((!cN lk ld rk rd) = false ∧ True → sOK bd) ∧
 ((!cN lk ld rk rd) = false ∧ True → bA bd = true) ∧
 ((!cN lk ld rk rd) = false ∧ True → (0 : Int) ≤ b ∧ b ≤ (24 : Int)) ∧
 ((!cN lk ld rk rd || !blN bd b) = false ∧ True → SizeOf.sizeOf eb < m) ∧
 ((!cN lk ld rk rd || !blN bd b) = false ∧ True → sOK eb) ∧
 ((!cN lk ld rk rd || !blN bd b) = false ∧ True → bA eb = true) ∧
 ((!cN lk ld rk rd || !blN bd b) = false ∧ True →
 (0 : Int) ≤ IntKind.i64.wrap (b + (1 : Int)) ∧ IntKind.i64.wrap (b + (1 : Int)) ≤ (24 : Int)) ∧
 (!cN lk ld rk rd || !blN bd b || !bN eb (IntKind.i64.wrap (b + (1 : Int)))) =
 !stN k nm tg ek en es ed op lk ln ls ld rk rn rs rd bd eb am b) ∧
 ((k == (2 : Int)) = false →
 ((k == (3 : Int)) = true →
 aC op lk ln ls ld rk rn rs rd = true ∧
 ((!cN lk ld rk rd) = false ∧ True → SizeOf.sizeOf bd < m) ∧
 ((!cN lk ld rk rd) = false ∧ True → sOK bd) ∧
 ((!cN lk ld rk rd) = false ∧ True → bA bd = true) ∧
 ((!cN lk ld rk rd) = false ∧ True → (0 : Int) ≤ b ∧ b ≤ (24 : Int)) ∧
 (!cN lk ld rk rd || !blN bd b) = !stN k nm tg ek en es ed op lk ln ls ld rk rn rs rd bd eb am b) ∧
 ((k == (3 : Int)) = false →
 ((k == (5 : Int)) = true →
 (∃ (i : Nat),
 (i ≤ am.len ∧ ∀ (j : Nat), j < i → amNE am b j = true) ∧
 (0 : Int) = (↑i : Int) ∧ b = b ∧ am.rows = am.rows ∧ (↑am.len : Int) = (↑am.len : Int)) ∧
 ∀ (i : Nat),
 (i ≤ am.len ∧ ∀ (j : Nat), j < i → amNE am b j = true) →
 (decide ((↑i : Int) < (↑am.len : Int)) = true →
 ((0 : Int) ≤ (↑i : Int) ∧ (↑i : Int) < (↑am.len : Int)) ∧
 SizeOf.sizeOf (am.el (↑i : Int).toNat ((0 : Nat) + (1 : Nat) + (1 : Nat))) < m ∧
 sOK (am.el (↑i : Int).toNat ((0 : Nat) + (1 : Nat) + (1 : Nat))) ∧
 bA (am.el (↑i : Int).toNat ((0 : Nat) + (1 : Nat) + (1 : Nat))) = true ∧
 ((0 : Int) ≤ b ∧ b ≤ (24 : Int)) ∧
 ((!blN (am.el (↑i : Int).toNat ((0 : Nat) + (1 : Nat) + (1 : Nat))) b) = true →
 true = !stN k nm tg ek en es ed op lk ln ls ld rk rn rs rd bd eb am b) ∧
 ((!blN (am.el (↑i : Int).toNat ((0 : Nat) + (1 : Nat) + (1 : Nat))) b) = false →
 ∃ (j : Nat),
 (j ≤ am.len ∧ ∀ (j_1 : Nat), j_1 < j → amNE am b j_1 = true) ∧
 am.len - j < am.len - i ∧
 IntKind.i64.wrap ((↑i : Int) + (1 : Int)) = (↑j : Int) ∧
 b = b ∧ am.rows = am.rows ∧ (↑am.len : Int) = (↑am.len : Int))) ∧
 (decide ((↑i : Int) < (↑am.len : Int)) = false →
 false = !stN k nm tg ek en es ed op lk ln ls ld rk rn rs rd bd eb am b)) ∧
 ((k == (5 : Int)) = false → false = !stN k nm tg ek en es ed op lk ln ls ld rk rn rs rd bd eb am b))))))) (by kernel_rfl) ?_
    intro h1 h2 h3 h4 h5 h6 h7 hb
    by_cases n1 : k = 1
    · subst n1
      have h7 : (nmB nm && aX ek en es ed) = true := h7
      rw [Bool.and_eq_true] at h7
      exact ⟨fun _ => ⟨fun _ => ⟨h7.2, by omega, rfl⟩, fun h => (by cases h)⟩, fun h => (by cases h)⟩
    by_cases n4 : k = 4
    · subst n4
      have h7 : (nmB nm && nmB tg && aX ek en es ed) = true := h7
      rw [Bool.and_eq_true] at h7
      exact ⟨fun h => (by cases h), fun _ => ⟨fun _ => ⟨h7.2, by omega, rfl⟩, fun h => (by cases h)⟩⟩
    refine ⟨fun h => absurd (eq_of_beq h) n1, fun _ => ⟨fun h => absurd (eq_of_beq h) n4, fun _ => ⟨fun k6 => ?_, fun k6 => ⟨fun k2 => ?_, fun k2 => ⟨fun k3 => ?_, fun k3 => ⟨fun k5 => ?_, fun k5 => ?_⟩⟩⟩⟩⟩⟩
    · obtain rfl := eq_of_beq k6
      exact ⟨h7, rfl⟩
    · obtain rfl := eq_of_beq k2
      have h7 : (aC op lk ln ls ld rk rn rs rd && bA bd && bA eb) = true := h7
      simp only [Bool.and_eq_true] at h7
      have hbn : (!cN lk ld rk rd || !blN bd b) = false → b < 24 := by
        intro h
        rw [Bool.or_eq_false_iff, Bool.not_eq_false', Bool.not_eq_false'] at h
        have h := h.2
        unfold blN at h
        simp only [Bool.and_eq_true, Bool.not_eq_true', decide_eq_false_iff_not] at h
        omega
      refine ⟨h7.1.1, fun _ => h1, fun _ => h4, fun _ => h7.1.2, fun _ => hb, fun _ => h2, fun _ => h5, fun _ => h7.2, fun h => ?_, ?_⟩
      · have := hbn h.1
        rw [IntWalk.i64_in _ (by omega)]; omega
      · rw [IntWalk.i64_in _ (by omega), ← Bool.not_and, ← Bool.not_and]; rfl
    · obtain rfl := eq_of_beq k3
      have h7 : (aC op lk ln ls ld rk rn rs rd && bA bd) = true := h7
      simp only [Bool.and_eq_true] at h7
      refine ⟨h7.1, fun _ => h1, fun _ => h4, fun _ => h7.2, fun _ => hb, ?_⟩
      rw [← Bool.not_and]; rfl
    · have hb9 := hb
      obtain rfl := eq_of_beq k5
      have h7 : (nmB nm && decide ((am.len : Int) > 0) && amA am) = true := h7
      simp only [Bool.and_eq_true] at h7
      have ham := allB_iff.1 h7.2
      have est : stN 5 nm tg ek en es ed op lk ln ls ld rk rn rs rd bd eb am b = amN am b := rfl
      rw [est]
      unfold amN
      have e0 : ∀ (i : Nat), ((i : Int)).toNat = i := fun i => Int.toNat_natCast i
      simp only [Nat.zero_add, Nat.reduceAdd, e0]
      refine ⟨⟨0, ⟨Nat.zero_le _, fun j hj => absurd hj (Nat.not_lt_zero j)⟩, by (repeat' apply And.intro) <;> first | trivial | rfl | (intro _ _; rfl) | (intro _ _; trivial)⟩, fun i hp => ⟨fun hl => ?_, fun hl => ?_⟩⟩
      · have hl := of_decide_eq_true hl
        have hb := h6.1
        have hi : i < am.len := by omega
        have hw : IntKind.i64.wrap ((i : Int) + 1) = ((i + 1 : Nat) : Int) := by rw [IntWalk.i64_in _ (by omega)]; omega
        have z1 := lel_lt (j := 2) hi
        have s1 := h6.2 i hi
        have r1 := ham i hi
        unfold arE at r1
        simp only [Bool.and_eq_true] at r1
        refine ⟨⟨by omega, by omega⟩, by omega, s1, r1.2, hb9, fun hq => ?_, fun hq => ?_⟩
        · have hq : amNE am b i = false := by rw [Bool.not_eq_true'] at hq; exact hq
          rw [allB_no hi hq]; rfl
        · have hq : amNE am b i = true := by rw [Bool.not_eq_false'] at hq; exact hq
          refine ⟨i + 1, ⟨by omega, fun j hj => ?_⟩, by omega, hw, by (repeat' apply And.intro) <;> first | trivial | rfl | (intro _ _; rfl) | (intro _ _; trivial)⟩
          rcases Nat.lt_or_ge j i with h | h
          · exact hp.2 j h
          · obtain rfl : j = i := by omega
            exact hq
      · have hl := of_decide_eq_false hl
        have hall : allB am.len (amNE am b) = true := allB_yes fun j hj => hp.2 j (by omega)
        rw [hall]; rfl
    · unfold stN stNF
      have z6 := ne_of_beq_false k6
      have z2 := ne_of_beq_false k2
      have z3 := ne_of_beq_false k3
      have z5 := ne_of_beq_false k5
      rw [if_neg (by omega), if_neg z6, if_neg z2, if_neg z3, if_neg z5]; rfl
  · trivial
theorem bdd_step (m : Nat) (ih : ConOK Tryd.prog 48 (con [lBo, lI] (bddSu m))) : ConOK Tryd.prog 48 (con [lBo, lI] (bddSu (m + 1))) := by
  refine fn_ob tt_ok mixed Tryd.func48 rfl (fun _ _ => by kernel_rfl) (A := fun ds => ⟨fun _ => Cons.of [(68, (sddC m))], fun k => match k, ds with | 2, [.d d, .i b] => some { ι := Nat, pre := fun _ i => i ≤ d.len ∧ ∀ j, j < i → stNE d b j = true, μ := fun i => d.len - i, st := fun s i => famR s [(9, .one (.sc (.int .i64 (.sym ((i : Int))))))] [1, 7, 8] [] [] } | _, _ => none, fun _ => none⟩) (fun _ _ => (cons_cons (sdd_ok ih) cons_nil)) (by kernel_rfl) ?_
  intro ds fr
  unfold bddSu
  split
  · rename_i d b
    refine kmp (q := SizeOf.sizeOf d < m + (1 : Nat) →
 sOK d →
 bA d = true →
 (0 : Int) ≤ b ∧ b ≤ (24 : Int) →
 (∃ (i : Nat),
 (i ≤ d.len ∧ ∀ (j : Nat), j < i → stNE d b j = true) ∧ (0 : Int) = (↑i : Int) ∧ b = b ∧ d.rows = d.rows ∧ (↑d.len : Int) = (↑d.len : Int)) ∧
 ∀ (i : Nat),
 (i ≤ d.len ∧ ∀ (j : Nat), j < i → stNE d b j = true) →
 (decide ((↑i : Int) < (↑d.len : Int)) = true →
 ((0 : Int) ≤ (↑i : Int) ∧ (↑i : Int) < (↑d.len : Int)) ∧
 SizeOf.sizeOf
 (d.el (↑i : Int).toNat
 ((0 : Nat) + (1 : Nat) + (1 : Nat) + (1 : Nat) + (1 : Nat) + (1 : Nat) + (1 : Nat) + (1 : Nat) + (1 : Nat) + (1 : Nat) + (1 : Nat) +
 (1 : Nat) +
 (1 : Nat) +
 (1 : Nat) +
 (1 : Nat) +
 (1 : Nat) +
 (1 : Nat))) <
 m ∧
 SizeOf.sizeOf
 (d.el (↑i : Int).toNat
 ((0 : Nat) + (1 : Nat) + (1 : Nat) + (1 : Nat) + (1 : Nat) + (1 : Nat) + (1 : Nat) + (1 : Nat) + (1 : Nat) + (1 : Nat) +
 (1 : Nat) +
 (1 : Nat) +
 (1 : Nat) +
 (1 : Nat) +
 (1 : Nat) +
 (1 : Nat) +
 (1 : Nat) +
 (1 : Nat))) <
 m ∧
 SizeOf.sizeOf
 (d.el (↑i : Int).toNat
 ((0 : Nat) + (1 : Nat) + (1 : Nat) + (1 : Nat) + (1 : Nat) + (1 : Nat) + (1 : Nat) + (1 : Nat) + (1 : Nat) + (1 : Nat) +
 (1 : Nat) +
 (1 : Nat) +
 (1 : Nat) +
 (1 : Nat) +
 (1 : Nat) +
 (1 : Nat) +
 (1 : Nat) +
 (1 : Nat) +
 (1 : Nat))) <
 m ∧
 sOK
 (d.el (↑i : Int).toNat
 ((0 : Nat) + (1 : Nat) + (1 : Nat) + (1 : Nat) + (1 : Nat) + (1 : Nat) + (1 : Nat) + (1 : Nat) + (1 : Nat) + (1 : Nat) +
 (1 : Nat) +
 (1 : Nat) +
 (1 : Nat) +
 (1 : Nat) +
 (1 : Nat) +
 (1 : Nat) +
 (1 : Nat))) ∧
 sOK
 (d.el (↑i : Int).toNat
 ((0 : Nat) + (1 : Nat) + (1 : Nat) + (1 : Nat) + (1 : Nat) + (1 : Nat) + (1 : Nat) + (1 : Nat) + (1 : Nat) + (1 : Nat) +
 (1 : Nat) +
 (1 : Nat) +
 (1 : Nat) +
 (1 : Nat) +
 (1 : Nat) +
 (1 : Nat) +
 (1 : Nat) +
 (1 : Nat))) ∧
 amOK
 (d.el (↑i : Int).toNat
 ((0 : Nat) + (1 : Nat) + (1 : Nat) + (1 : Nat) + (1 : Nat) + (1 : Nat) + (1 : Nat) + (1 : Nat) + (1 : Nat) + (1 : Nat) +
 (1 : Nat) +
 (1 : Nat) +
 (1 : Nat) +
 (1 : Nat) +
 (1 : Nat) +
 (1 : Nat) +
 (1 : Nat) +
 (1 : Nat) +
 (1 : Nat))) ∧
 stA (d.el (↑i : Int).toNat (0 : Nat)).toI (d.el (↑i : Int).toNat ((0 : Nat) + (1 : Nat))).toS
 (d.el (↑i : Int).toNat ((0 : Nat) + (1 : Nat) + (1 : Nat))).toS
 (d.el (↑i : Int).toNat ((0 : Nat) + (1 : Nat) + (1 : Nat) + (1 : Nat))).toI
 (d.el (↑i : Int).toNat ((0 : Nat) + (1 : Nat) + (1 : Nat) + (1 : Nat) + (1 : Nat))).toI
 (d.el (↑i : Int).toNat ((0 : Nat) + (1 : Nat) + (1 : Nat) + (1 : Nat) + (1 : Nat) + (1 : Nat))).toS
 (d.el (↑i : Int).toNat ((0 : Nat) + (1 : Nat) + (1 : Nat) + (1 : Nat) + (1 : Nat) + (1 : Nat) + (1 : Nat)))
 (d.el (↑i : Int).toNat
 ((0 : Nat) + (1 : Nat) + (1 : Nat) + (1 : Nat) + (1 : Nat) + (1 : Nat) + (1 : Nat) + (1 : Nat))).toI
 (d.el (↑i : Int).toNat
 ((0 : Nat) + (1 : Nat) + (1 : Nat) + (1 : Nat) + (1 : Nat) + (1 : Nat) + (1 : Nat) + (1 : Nat) + (1 : Nat))).toI
 (d.el (↑i : Int).toNat
 ((0 : Nat) + (1 : Nat) + (1 : Nat) + (1 : Nat) + (1 : Nat) + (1 : Nat) + (1 : Nat) + (1 : Nat) + (1 : Nat) +
 (1 : Nat))).toI
 (d.el (↑i : Int).toNat
 ((0 : Nat) + (1 : Nat) + (1 : Nat) + (1 : Nat) + (1 : Nat) + (1 : Nat) + (1 : Nat) + (1 : Nat) + (1 : Nat) +
 (1 : Nat) +
 (1 : Nat))).toS
 (d.el (↑i : Int).toNat
 ((0 : Nat) + (1 : Nat) + (1 : Nat) + (1 : Nat) + (1 : Nat) + (1 : Nat) + (1 : Nat) + (1 : Nat) + (1 : Nat) + (1 : Nat) +
 (1 : Nat) +
 (1 : Nat)))
 (d.el (↑i : Int).toNat
 ((0 : Nat) + (1 : Nat) + (1 : Nat) + (1 : Nat) + (1 : Nat) + (1 : Nat) + (1 : Nat) + (1 : Nat) + (1 : Nat) +
 (1 : Nat) +
 (1 : Nat) +
 (1 : Nat) +
 (1 : Nat))).toI
 (d.el (↑i : Int).toNat
 ((0 : Nat) + (1 : Nat) + (1 : Nat) + (1 : Nat) + (1 : Nat) + (1 : Nat) + (1 : Nat) + (1 : Nat) + (1 : Nat) +
 (1 : Nat) +
 (1 : Nat) +
 (1 : Nat) +
 (1 : Nat) +
 (1 : Nat))).toI
 (d.el (↑i : Int).toNat
 ((0 : Nat) + (1 : Nat) + (1 : Nat) + (1 : Nat) + (1 : Nat) + (1 : Nat) + (1 : Nat) + (1 : Nat) + (1 : Nat) +
 (1 : Nat) +
 (1 : Nat) +
 (1 : Nat) +
 (1 : Nat) +
 (1 : Nat) +
 (1 : Nat))).toS
 (d.el (↑i : Int).toNat
 ((0 : Nat) + (1 : Nat) + (1 : Nat) + (1 : Nat) + (1 : Nat) + (1 : Nat) + (1 : Nat) + (1 : Nat) + (1 : Nat) + (1 : Nat) +
 (1 : Nat) +
 (1 : Nat) +
 (1 : Nat) +
 (1 : Nat) +
 (1 : Nat) +
 (1 : Nat)))
 (d.el (↑i : Int).toNat
 ((0 : Nat) + (1 : Nat) + (1 : Nat) + (1 : Nat) + (1 : Nat) + (1 : Nat) + (1 : Nat) + (1 : Nat) + (1 : Nat) + (1 : Nat) +
 (1 : Nat) +
 (1 : Nat) +
 (1 : Nat) +
 (1 : Nat) +
 (1 : Nat) +
 (1 : Nat) +
 (1 : Nat)))
 (d.el (↑i : Int).toNat
 ((0 : Nat) + (1 : Nat) + (1 : Nat) + (1 : Nat) + (1 : Nat) + (1 : Nat) + (1 : Nat) + (1 : Nat) + (1 : Nat) + (1 : Nat) +
 (1 : Nat) +
 (1 : Nat) +
 (1 : Nat) +
 (1 : Nat) +
 (1 : Nat) +
 (1 : Nat) +
 (1 : Nat) +
 (1 : Nat)))
 (d.el (↑i : Int).toNat
 ((0 : Nat) + (1 : Nat) + (1 : Nat) + (1 : Nat) + (1 : Nat) + (1 : Nat) + (1 : Nat) + (1 : Nat) + (1 : Nat) + (1 : Nat) +
 (1 : Nat) +
 (1 : Nat) +
 (1 : Nat) +
 (1 : Nat) +
 (1 : Nat) +
 (1 : Nat) +
 (1 : Nat) +
 (1 : Nat) +
 (1 : Nat))) =
 true ∧
 ((0 : Int) ≤ b ∧ b ≤ (24 : Int)) ∧
 ((!stN (d.el (↑i : Int).toNat (0 : Nat)).toI (d.el (↑i : Int).toNat ((0 : Nat) + (1 : Nat))).toS
 (d.el (↑i : Int).toNat ((0 : Nat) + (1 : Nat) + (1 : Nat))).toS
 (d.el (↑i : Int).toNat ((0 : Nat) + (1 : Nat) + (1 : Nat) + (1 : Nat))).toI
 (d.el (↑i : Int).toNat ((0 : Nat) + (1 : Nat) + (1 : Nat) + (1 : Nat) + (1 : Nat))).toI
 (d.el (↑i : Int).toNat ((0 : Nat) + (1 : Nat) + (1 : Nat) + (1 : Nat) + (1 : Nat) + (1 : Nat))).toS
 (d.el (↑i : Int).toNat ((0 : Nat) + (1 : Nat) + (1 : Nat) + (1 : Nat) + (1 : Nat) + (1 : Nat) + (1 : Nat)))
 (d.el (↑i : Int).toNat
 ((0 : Nat) + (1 : Nat) + (1 : Nat) + (1 : Nat) + (1 : Nat) + (1 : Nat) + (1 : Nat) + (1 : Nat))).toI
 (d.el (↑i : Int).toNat
 ((0 : Nat) + (1 : Nat) + (1 : Nat) + (1 : Nat) + (1 : Nat) + (1 : Nat) + (1 : Nat) + (1 : Nat) +
 (1 : Nat))).toI
 (d.el (↑i : Int).toNat
 ((0 : Nat) + (1 : Nat) + (1 : Nat) + (1 : Nat) + (1 : Nat) + (1 : Nat) + (1 : Nat) + (1 : Nat) + (1 : Nat) +
 (1 : Nat))).toI
 (d.el (↑i : Int).toNat
 ((0 : Nat) + (1 : Nat) + (1 : Nat) + (1 : Nat) + (1 : Nat) + (1 : Nat) + (1 : Nat) + (1 : Nat) + (1 : Nat) +
 (1 : Nat) +
 (1 : Nat))).toS
 (d.el (↑i : Int).toNat
 ((0 : Nat) + (1 : Nat) + (1 : Nat) + (1 : Nat) + (1 : Nat) + (1 : Nat) + (1 : Nat) + (1 : Nat) + (1 : Nat) +
 (1 : Nat) +
 (1 : Nat) +
 (1 : Nat)))
 (d.el (↑i : Int).toNat
 ((0 : Nat) + (1 : Nat) + (1 : Nat) + (1 : Nat) + (1 : Nat) + (1 : Nat) + (1 : Nat) + (1 : Nat) + (1 : Nat) +
 (1 : Nat) +
 (1 : Nat) +
 (1 : Nat) +
 (1 : Nat))).toI
 (d.el (↑i : Int).toNat
 ((0 : Nat) + (1 : Nat) + (1 : Nat) + (1 : Nat) + (1 : Nat) + (1 : Nat) + (1 : Nat) + (1 : Nat) + (1 : Nat) +
 (1 : Nat) +
 (1 : Nat) +
 (1 : Nat) +
 (1 : Nat) +
 (1 : Nat))).toI
 (d.el (↑i : Int).toNat
 ((0 : Nat) + (1 : Nat) + (1 : Nat) + (1 : Nat) + (1 : Nat) + (1 : Nat) + (1 : Nat) + (1 : Nat) + (1 : Nat) +
 (1 : Nat) +
 (1 : Nat) +
 (1 : Nat) +
 (1 : Nat) +
 (1 : Nat) +
 (1 : Nat))).toS
 (d.el (↑i : Int).toNat
 ((0 : Nat) + (1 : Nat) + (1 : Nat) + (1 : Nat) + (1 : Nat) + (1 : Nat) + (1 : Nat) + (1 : Nat) + (1 : Nat) +
 (1 : Nat) +
 (1 : Nat) +
 (1 : Nat) +
 (1 : Nat) +
 (1 : Nat) +
 (1 : Nat) +
 (1 : Nat)))
 (d.el (↑i : Int).toNat
 ((0 : Nat) + (1 : Nat) + (1 : Nat) + (1 : Nat) + (1 : Nat) + (1 : Nat) + (1 : Nat) + (1 : Nat) + (1 : Nat) +
 (1 : Nat) +
 (1 : Nat) +
 (1 : Nat) +
 (1 : Nat) +
 (1 : Nat) +
 (1 : Nat) +
 (1 : Nat) +
 (1 : Nat)))
 (d.el (↑i : Int).toNat
 ((0 : Nat) + (1 : Nat) + (1 : Nat) + (1 : Nat) + (1 : Nat) + (1 : Nat) + (1 : Nat) + (1 : Nat) + (1 : Nat) +
 (1 : Nat) +
 (1 : Nat) +
 (1 : Nat) +
 (1 : Nat) +
 (1 : Nat) +
 (1 : Nat) +
 (1 : Nat) +
 (1 : Nat) +
 (1 : Nat)))
 (d.el (↑i : Int).toNat
 ((0 : Nat) + (1 : Nat) + (1 : Nat) + (1 : Nat) + (1 : Nat) + (1 : Nat) + (1 : Nat) + (1 : Nat) + (1 : Nat) +
 (1 : Nat) +
 (1 : Nat) +
 (1 : Nat) +
 (1 : Nat) +
 (1 : Nat) +
 (1 : Nat) +
 (1 : Nat) +
 (1 : Nat) +
 (1 : Nat) +
 (1 : Nat)))
 b) =
 true →
 true = !bN d b) ∧
 ((!stN (d.el (↑i : Int).toNat (0 : Nat)).toI (d.el (↑i : Int).toNat ((0 : Nat) + (1 : Nat))).toS
 (d.el (↑i : Int).toNat ((0 : Nat) + (1 : Nat) + (1 : Nat))).toS
 (d.el (↑i : Int).toNat ((0 : Nat) + (1 : Nat) + (1 : Nat) + (1 : Nat))).toI
 (d.el (↑i : Int).toNat ((0 : Nat) + (1 : Nat) + (1 : Nat) + (1 : Nat) + (1 : Nat))).toI
 (d.el (↑i : Int).toNat ((0 : Nat) + (1 : Nat) + (1 : Nat) + (1 : Nat) + (1 : Nat) + (1 : Nat))).toS
 (d.el (↑i : Int).toNat ((0 : Nat) + (1 : Nat) + (1 : Nat) + (1 : Nat) + (1 : Nat) + (1 : Nat) + (1 : Nat)))
 (d.el (↑i : Int).toNat
 ((0 : Nat) + (1 : Nat) + (1 : Nat) + (1 : Nat) + (1 : Nat) + (1 : Nat) + (1 : Nat) + (1 : Nat))).toI
 (d.el (↑i : Int).toNat
 ((0 : Nat) + (1 : Nat) + (1 : Nat) + (1 : Nat) + (1 : Nat) + (1 : Nat) + (1 : Nat) + (1 : Nat) +
 (1 : Nat))).toI
 (d.el (↑i : Int).toNat
 ((0 : Nat) + (1 : Nat) + (1 : Nat) + (1 : Nat) + (1 : Nat) + (1 : Nat) + (1 : Nat) + (1 : Nat) + (1 : Nat) +
 (1 : Nat))).toI
 (d.el (↑i : Int).toNat
 ((0 : Nat) + (1 : Nat) + (1 : Nat) + (1 : Nat) + (1 : Nat) + (1 : Nat) + (1 : Nat) + (1 : Nat) + (1 : Nat) +
 (1 : Nat) +
 (1 : Nat))).toS
 (d.el (↑i : Int).toNat
 ((0 : Nat) + (1 : Nat) + (1 : Nat) + (1 : Nat) + (1 : Nat) + (1 : Nat) + (1 : Nat) + (1 : Nat) + (1 : Nat) +
 (1 : Nat) +
 (1 : Nat) +
 (1 : Nat)))
 (d.el (↑i : Int).toNat
 ((0 : Nat) + (1 : Nat) + (1 : Nat) + (1 : Nat) + (1 : Nat) + (1 : Nat) + (1 : Nat) + (1 : Nat) + (1 : Nat) +
 (1 : Nat) +
 (1 : Nat) +
 (1 : Nat) +
 (1 : Nat))).toI
 (d.el (↑i : Int).toNat
 ((0 : Nat) + (1 : Nat) + (1 : Nat) + (1 : Nat) + (1 : Nat) + (1 : Nat) + (1 : Nat) + (1 : Nat) + (1 : Nat) +
 (1 : Nat) +
 (1 : Nat) +
 (1 : Nat) +
 (1 : Nat) +
 (1 : Nat))).toI
 (d.el (↑i : Int).toNat
 ((0 : Nat) + (1 : Nat) + (1 : Nat) + (1 : Nat) + (1 : Nat) + (1 : Nat) + (1 : Nat) + (1 : Nat) + (1 : Nat) +
 (1 : Nat) +
 (1 : Nat) +
 (1 : Nat) +
 (1 : Nat) +
 (1 : Nat) +
 (1 : Nat))).toS
 (d.el (↑i : Int).toNat
 ((0 : Nat) + (1 : Nat) + (1 : Nat) + (1 : Nat) + (1 : Nat) + (1 : Nat) + (1 : Nat) + (1 : Nat) + (1 : Nat) +
 (1 : Nat) +
 (1 : Nat) +
 (1 : Nat) +
 (1 : Nat) +
 (1 : Nat) +
 (1 : Nat) +
 (1 : Nat)))
 (d.el (↑i : Int).toNat
 ((0 : Nat) + (1 : Nat) + (1 : Nat) + (1 : Nat) + (1 : Nat) + (1 : Nat) + (1 : Nat) + (1 : Nat) + (1 : Nat) +
 (1 : Nat) +
 (1 : Nat) +
 (1 : Nat) +
 (1 : Nat) +
 (1 : Nat) +
 (1 : Nat) +
 (1 : Nat) +
 (1 : Nat)))
 (d.el (↑i : Int).toNat
 ((0 : Nat) + (1 : Nat) + (1 : Nat) + (1 : Nat) + (1 : Nat) + (1 : Nat) + (1 : Nat) + (1 : Nat) + (1 : Nat) +
 (1 : Nat) +
 (1 : Nat) +
 (1 : Nat) +
 (1 : Nat) +
 (1 : Nat) +
 (1 : Nat) +
 (1 : Nat) +
 (1 : Nat) +
 (1 : Nat)))
 (d.el (↑i : Int).toNat
 ((0 : Nat) + (1 : Nat) + (1 : Nat) + (1 : Nat) + (1 : Nat) + (1 : Nat) + (1 : Nat) + (1 : Nat) + (1 : Nat) +
 (1 : Nat) +
 (1 : Nat) +
 (1 : Nat) +
 (1 : Nat) +
 (1 : Nat) +
 (1 : Nat) +
 (1 : Nat) +
 (1 : Nat) +
 (1 : Nat) +
 (1 : Nat)))
 b) =
 false →
 ∃ (j : Nat),
 (j ≤ d.len ∧ ∀ (j_1 : Nat), j_1 < j → stNE d b j_1 = true) ∧
 d.len - j < d.len - i ∧
 IntKind.i64.wrap ((↑i : Int) + (1 : Int)) = (↑j : Int) ∧
 b = b ∧ d.rows = d.rows ∧ (↑d.len : Int) = (↑d.len : Int))) ∧
 (decide ((↑i : Int) < (↑d.len : Int)) = false → false = !bN d b)) (by kernel_rfl) ?_
    intro hm hs ha hb0
    have ha2 := ha
    rw [bA_eq] at ha2
    have ha2 := allB_iff.1 ha2
    have e0 : ∀ (i : Nat), ((i : Int)).toNat = i := fun i => Int.toNat_natCast i
    simp only [Nat.zero_add, Nat.reduceAdd, e0]
    rw [bN_eq]
    refine ⟨⟨0, ⟨Nat.zero_le _, fun j hj => absurd hj (Nat.not_lt_zero j)⟩, by (repeat' apply And.intro) <;> first | trivial | rfl | (intro _ _; rfl) | (intro _ _; trivial)⟩, fun i hp => ⟨fun hl => ?_, fun hl => ?_⟩⟩
    · have hl := of_decide_eq_true hl
      have hb := ((sOK_iff d).1 hs).1
      have hi : i < d.len := by omega
      have hw : IntKind.i64.wrap ((i : Int) + 1) = ((i + 1 : Nat) : Int) := by rw [IntWalk.i64_in _ (by omega)]; omega
      have z1 := lel_lt (j := 16) hi
      have z2 := lel_lt (j := 17) hi
      have z3 := lel_lt (j := 18) hi
      obtain ⟨s1, s2, s3⟩ := ((sOK_iff d).1 hs).2 i hi
      refine ⟨⟨by omega, by omega⟩, by omega, by omega, by omega, s1, s2, s3, ha2 i hi, hb0, fun hq => ?_, fun hq => ?_⟩
      · have hq : stNE d b i = false := by rw [Bool.not_eq_true'] at hq; exact hq
        rw [allB_no hi hq]; rfl
      · have hq : stNE d b i = true := by rw [Bool.not_eq_false'] at hq; exact hq
        refine ⟨i + 1, ⟨by omega, fun j hj => ?_⟩, by omega, hw, by (repeat' apply And.intro) <;> first | trivial | rfl | (intro _ _; rfl) | (intro _ _; trivial)⟩
        rcases Nat.lt_or_ge j i with h | h
        · exact hp.2 j h
        · obtain rfl : j = i := by omega
          exact hq
    · have hl := of_decide_eq_false hl
      have hall : allB d.len (stNE d b) = true := allB_yes fun j hj => hp.2 j (by omega)
      rw [hall]; rfl
  · trivial
theorem bdd_ok : ConOK Tryd.prog 48 bddC :=
  con_rec bddM (fun _ _ => by kernel_rfl) fun m ih => by
    rw [bdd_under] at ih ⊢
    exact bdd_step m ih
end Go.Proofs.YtomodncooiddaaaDoor.Sx.Z
