/-
  AstDeeps, with all that it wants behind texts().
-/
import Derived.Test.YtehblppfclpojaaDoorLu
namespace Go.Proofs.YtehblppfclpojaaDoor.Sx.Z
open Go.RowKit
def m4 (a : Int) : Nat := (IntKind.u64.wrap a).toNat % 4
def cEm (i : Nat) : List D := [.s ⟨#[99]⟩, .i ((i : Int).tmod 3), .i (i : Int), .s ⟨#[112]⟩, .s ⟨#[113]⟩, .l [[.s ⟨#[97]⟩]]]
def rEm (i : Nat) : List D := [.s ⟨#[99]⟩, .l [[.i (i : Int), .s ⟨#[97]⟩, .i 0]]]
def pEm (_ : Nat) : List D := [.s ⟨#[112]⟩, .l [], .l []]
theorem m4_le (a : Int) : m4 a ≤ 3 := by unfold m4; omega
theorem m4_eq (a : Int) : IntKind.i64.wrap ((IntKind.u64.wrap a).tmod 4) = (m4 a : Int) := by
  have h0 : 0 ≤ IntKind.u64.wrap a := by rw [IntKind.wrap_u64]; omega
  have e : (IntKind.u64.wrap a).tmod 4 = (m4 a : Int) := by
    rw [Int.tmod_eq_emod_of_nonneg h0]
    unfold m4
    omega
  have := m4_le a
  rw [e, IntWalk.i64_in _ (by omega)]
theorem cpTo_el {n i j : Nat} {f : Nat → List D} (h : i < n) : (cpTo n f).el i j = (f i).getD j (.i 0) := by
  show (((List.range n).map f).getD i []).getD j (.i 0) = _
  rw [List.getD_eq_getElem?_getD (l := (List.range n).map f), List.getElem?_map, List.getElem?_range h]; rfl
theorem cpTo_congr {n : Nat} {f g : Nat → List D} (h : ∀ i, i < n → f i = g i) : cpTo n f = cpTo n g := by
  unfold cpTo
  congr 1
  exact List.map_congr_left fun i hi => h i (List.mem_range.1 hi)
theorem catTo_const {n k : Nat} {f : Nat → List ByteArray} (h : ∀ i, i < n → (f i).length = k) : (catTo n f).length = n * k := by
  induction n with
  | zero => simp [catTo]
  | succ n ih =>
    rw [catTo_succ, List.length_append, ih fun i hi => h i (by omega), h n (by omega), Nat.add_mul]; omega
theorem cpC_m (n : Nat) : cpC (cpTo n cEm) = cpTo n cEm := by
  unfold cpC
  rw [cpTo_len]
  refine cpTo_congr fun i hi => ?_
  unfold chR
  simp only [cpTo_el hi]; rfl
theorem cpU_m (n : Nat) : cpU (cpTo n rEm) = cpTo n rEm := by
  unfold cpU
  rw [cpTo_len]
  refine cpTo_congr fun i hi => ?_
  unfold ruR
  simp only [cpTo_el hi]; rfl
theorem cpP_m (n : Nat) : cpP (cpTo n pEm) = cpTo n pEm := by
  unfold cpP
  rw [cpTo_len]
  refine cpTo_congr fun i hi => ?_
  unfold prR
  simp only [cpTo_el hi]
  show [D.s ⟨#[112]⟩, .l [], cpB (.l [])] = _
  rw [cpB_nil]; rfl
theorem SyS_m {n m p : Nat} (h1 : n ≤ 3) (h2 : m ≤ 3) (h3 : p ≤ 3) : SyS (cpTo n cEm) (cpTo m rEm) (cpTo p pEm) := by
  refine ⟨by rw [cpTo_len]; omega, fun i h => ?_, by rw [cpTo_len]; omega, fun i h => ?_, by rw [cpTo_len]; omega, fun i h => ?_, fun i h => ?_⟩ <;> rw [cpTo_len] at h <;> rw [cpTo_el h]
  · show 1 ≤ 1000000
    decide
  · show 1 ≤ 1000000
    decide
  · exact Nat.zero_le _
  · exact bS_nil
theorem SyOK_m {n m p : Nat} (h1 : n ≤ 3) (h2 : m ≤ 3) (h3 : p ≤ 3) : SyOK (cpTo n cEm) (cpTo m rEm) (cpTo p pEm) := by
  refine ⟨by rw [cpTo_len]; omega, fun i h => ?_, by rw [cpTo_len]; omega, fun i h => ?_, by rw [cpTo_len]; omega, fun i h => ?_, fun i h => ?_⟩ <;> rw [cpTo_len] at h <;> rw [cpTo_el h]
  · show 1 ≤ 1000000000000
    decide
  · show 1 ≤ 1000000000000
    decide
  · exact Nat.zero_le _
  · exact sOK_nil
theorem sz1 (c : UInt8) : sz ⟨#[c]⟩ := by show 1 ≤ 1000000000; decide
theorem SyF_m {n m p : Nat} (h1 : n ≤ 3) (h2 : m ≤ 3) (_h3 : p ≤ 3) : SyF (cpTo n cEm) (cpTo m rEm) (cpTo p pEm) := by
  refine ⟨fun i h => ?_, fun i h => ?_, fun i h => ?_⟩ <;> rw [cpTo_len] at h <;> simp only [cpTo_el h]
  · exact ⟨sz1 _, (show 0 ≤ (i : Int) ∧ (i : Int) < 100 by omega), sz1 _, sz1 _, (show 1 ≤ 1000000000000 by decide), fun j hj => lt_one (P := fun j => sz ((D.l [[.s ⟨#[97]⟩]]).el j 0).toS) (sz1 _) hj⟩
  · exact ⟨sz1 _, (show 1 ≤ 1000000000000 by decide), fun j hj => lt_one (P := fun j => sm ((D.l [[.i (i : Int), .s ⟨#[97]⟩, .i 0]]).el j 0).toI ∧ sz ((D.l [[.i (i : Int), .s ⟨#[97]⟩, .i 0]]).el j 1).toS ∧ sm ((D.l [[.i (i : Int), .s ⟨#[97]⟩, .i 0]]).el j 2).toI) ⟨(show 0 ≤ (i : Int) ∧ (i : Int) < 100 by omega), sz1 _, (show (0 : Int) ≤ 0 ∧ (0 : Int) < 100 by decide)⟩ hj⟩
  · exact ⟨sz1 _, Nat.zero_le _, fun j hj => absurd hj (Nat.not_lt_zero j), bF_nil⟩
theorem nm_c : nmB ⟨#[99]⟩ = true := by decide +kernel
theorem nm_q : nmB ⟨#[113]⟩ = true := by decide +kernel
theorem bA_nil : bA (.l []) = true := by rw [bA_eq]; rfl
theorem bN_nil (b : Int) : bN (.l []) b = true := by rw [bN_eq]; rfl
theorem bW_nil : bW (.l []) = [] := by rw [bW_eq]; rfl
theorem nuB_in {x : Int} (h : 0 ≤ x ∧ x < 100) : nuB x = true := by
  unfold nuB
  rw [decide_eq_true h.1, decide_eq_true (show x ≤ 2147483647 by omega)]; rfl
theorem syB_m {n m p : Nat} (h1 : n ≤ 3) (h2 : m ≤ 3) : syB (cpTo n cEm) (cpTo m rEm) (cpTo p pEm) = true := by
  unfold syB
  simp only [Bool.and_eq_true]
  refine ⟨allB_yes fun i h => ?_, allB_yes fun i h => ?_, allB_yes fun i h => ?_⟩ <;> rw [cpTo_len] at h
  · unfold chE
    simp only [cpTo_el h]
    show (nmB ⟨#[99]⟩ && decide ((i : Int).tmod 3 ≥ 0) && decide ((i : Int).tmod 3 ≤ 2) && nuB (i : Int) && nmB ⟨#[112]⟩ && nmB ⟨#[113]⟩ && true && (nmB ⟨#[97]⟩ && true)) = true
    have e : (i : Int).tmod 3 = (i : Int) % 3 := Int.tmod_eq_emod_of_nonneg (by omega)
    rw [nm_c, nm_p, nm_q, nm_a, nuB_in (by omega), e, decide_eq_true (show (i : Int) % 3 ≥ 0 by omega), decide_eq_true (show (i : Int) % 3 ≤ 2 by omega)]; rfl
  · unfold ruE
    simp only [cpTo_el h]
    show (((nuB (i : Int) && nmB ⟨#[97]⟩ && nuB 0) && true) && nmB ⟨#[99]⟩) = true
    rw [nm_c, nm_a, nuB_in (by omega), nuB_in (by omega)]; rfl
  · unfold prE
    simp only [cpTo_el h]
    show (nmB ⟨#[112]⟩ && true && bA (.l [])) = true
    rw [nm_p, bA_nil]; rfl
theorem syN_m (p : Nat) : syN (cpTo p pEm) = true := allB_yes fun i h => by
  rw [cpTo_len] at h
  unfold prNE
  rw [cpTo_el h]
  exact bN_nil 0
theorem syW_m (n m p : Nat) : (syW (cpTo n cEm) (cpTo m rEm) (cpTo p pEm)).length = 12 * n + 8 * m + 4 * p := by
  unfold syW
  rw [List.length_append, List.length_append, cpTo_len, cpTo_len, cpTo_len]
  have c1 : (catTo n (chWE (cpTo n cEm))).length = n * 12 := catTo_const fun i h => by
    unfold chWE; simp only [cpTo_el h]; rfl
  have c2 : (catTo m (ruWE (cpTo m rEm))).length = m * 8 := catTo_const fun i h => by
    unfold ruWE; simp only [cpTo_el h]; rfl
  have c3 : (catTo p (prWE (cpTo p pEm))).length = p * 4 := catTo_const fun i h => by
    unfold prWE
    simp only [cpTo_el h]
    show ([⟨#[112, 114, 111, 99]⟩, ⟨#[112]⟩, ⟨#[123]⟩] ++ ([] ++ (bW (.l []) ++ [⟨#[125]⟩])) : List ByteArray).length = 4
    rw [bW_nil]; rfl
  rw [c1, c2, c3]
  omega
theorem wd_m {n m p : Nat} (h1 : n ≤ 3) (h2 : m ≤ 3) (h3 : p ≤ 3) : wdE (cpTo n cEm) (cpTo m rEm) (cpTo p pEm) = 0 ∧ (wdA (cpTo n cEm) (cpTo m rEm) (cpTo p pEm)).len = 12 * n + 8 * m + 4 * p := by
  have el : (wdD (cpTo n cEm) (cpTo m rEm) (cpTo p pEm)).len = 12 * n + 8 * m + 4 * p := by
    unfold wdD
    rw [cat_len, syW_m]
    show min 2001 (0 + _) = _
    omega
  have e0 := wd0 (syB_m (p := p) h1 h2) (syN_m p) (ch := cpTo n cEm) (ru := cpTo m rEm) (by rw [el]; omega)
  exact ⟨e0, by rw [wdA, if_pos e0, el]⟩
noncomputable def empS : FSpec := fun ds _ => match ds with
  | [.i _a, .i _b, .i _c] => some { val := .one (.sc (.bool (.lit true))), vc := [] }
  | _ => none
noncomputable def empC : Con := con [lI, lI, lI] empS
theorem emp_ok : ConOK Tryd.prog 5 empC := by
  refine fn_ob tt_ok mixed Tryd.func5 rfl (fun _ _ => by kernel_rfl) (A := fun ds => ⟨fun _ => Cons.of [(9, ycpC), (11, wrdC), (10, txtsC)], fun k => match k, ds with | 3, [.i a, .i b, .i c] => some { ι := Nat, pre := fun _ i => i ≤ m4 a, μ := fun i => 4 - i, st := fun s i => famR s [(8, .one (.sc (.int .i64 (.sym ((i : Nat))))))] [0, 1, 2, 7] [(idOf s 7, .own 48 ([.c (.osl 55 (s.nx - 1) (.lit 0) (.sym (i))), .c .nils, .c .nils])), (s.nx - 1, .orow 55 (cpTo (i) cEm))] [] } | 7, [.i a, .i b, .i c] => some { ι := Nat, pre := fun _ i => i ≤ m4 b, μ := fun i => 4 - i, st := fun s i => famR s [(9, .one (.sc (.int .i64 (.sym ((i : Nat))))))] [0, 1, 2, 7] [(idOf s 7, .own 48 ([.c (.osl 55 (cellId s 7 0) (.lit 0) (.sym (m4 a))), .c (.osl 60 (s.nx - 1) (.lit 0) (.sym (i))), .c .nils])), (cellId s 7 0, .orow 55 (cpTo (m4 a) cEm)), (s.nx - 1, .orow 60 (cpTo (i) rEm))] [] } | 11, [.i a, .i b, .i c] => some { ι := Nat, pre := fun _ i => i ≤ m4 c, μ := fun i => 4 - i, st := fun s i => famR s [(10, .one (.sc (.int .i64 (.sym ((i : Nat))))))] [0, 1, 2, 7] [(idOf s 7, .own 48 ([.c (.osl 55 (cellId s 7 0) (.lit 0) (.sym (m4 a))), .c (.osl 60 (cellId s 7 1) (.lit 0) (.sym (m4 b))), .c (.osl 43 (s.nx - 1) (.lit 0) (.sym (i)))])), (cellId s 7 0, .orow 55 (cpTo (m4 a) cEm)), (cellId s 7 1, .orow 60 (cpTo (m4 b) rEm)), (s.nx - 1, .orow 43 (cpTo (i) pEm))] [] } | _, _ => none, fun _ => none⟩) (fun _ _ => (cons_cons ycp_ok (cons_cons wrd_ok (cons_cons txts_ok cons_nil)))) (by kernel_rfl) ?_
  intro ds fr
  unfold empS
  split
  · rename_i a b c
    refine kmp (q := (∃ (i : Nat), i.le (m4 a) ∧ (0 : Int) = (↑i : Int) ∧ a = a ∧ b = b ∧ c = c ∧ i = (0 : Nat) ∧ List.map cEm (List.range i) = []) ∧
 ∀ (i : Nat),
 i.le (m4 a) →
 (decide ((↑i : Int) < IntKind.i64.wrap ((IntKind.u64.wrap a).tmod (4 : Int))) = true →
 (0 : Nat) + (1 : Nat) ≤ (D.l [[D.s (ByteArray.mk #[(97 : UInt8)])]]).len ∧
 i = (cpTo i cEm).len ∧
 (i +
 ((D.l
 [[D.s (ByteArray.mk #[(99 : UInt8)]), D.i ((↑i : Int).tmod (3 : Int)), D.i (↑i : Int), D.s (ByteArray.mk #[(112 : UInt8)]),
 D.s (ByteArray.mk #[(113 : UInt8)]), (D.l [[D.s (ByteArray.mk #[(97 : UInt8)])]]).sub (0 : Nat) ((0 : Nat) + (1 : Nat))]]).sub
 (0 : Nat) ((0 : Nat) + (1 : Nat))).len) *
 (88 : Nat) ≤
 (140737488355328 : Nat) ∧
 (0 : Nat) + (1 : Nat) ≤
 (D.l
 [[D.s (ByteArray.mk #[(99 : UInt8)]), D.i ((↑i : Int).tmod (3 : Int)), D.i (↑i : Int), D.s (ByteArray.mk #[(112 : UInt8)]),
 D.s (ByteArray.mk #[(113 : UInt8)]), (D.l [[D.s (ByteArray.mk #[(97 : UInt8)])]]).sub (0 : Nat) ((0 : Nat) + (1 : Nat))]]).len ∧
 ∃ (j : Nat),
 j.le (m4 a) ∧
 (4 : Nat) - j < (4 : Nat) - i ∧
 IntKind.i64.wrap ((↑i : Int) + (1 : Int)) = (↑j : Int) ∧
 a = a ∧
 b = b ∧
 c = c ∧
 i +
 ((D.l
 [[D.s (ByteArray.mk #[(99 : UInt8)]), D.i ((↑i : Int).tmod (3 : Int)), D.i (↑i : Int),
 D.s (ByteArray.mk #[(112 : UInt8)]), D.s (ByteArray.mk #[(113 : UInt8)]),
 (D.l [[D.s (ByteArray.mk #[(97 : UInt8)])]]).sub (0 : Nat) ((0 : Nat) + (1 : Nat))]]).sub
 (0 : Nat) ((0 : Nat) + (1 : Nat))).len =
 j ∧
 List.map cEm (List.range i) ++
 List.drop (0 : Nat)
 (List.take ((0 : Nat) + (1 : Nat))
 [[D.s (ByteArray.mk #[(99 : UInt8)]), D.i ((↑i : Int).tmod (3 : Int)), D.i (↑i : Int), D.s (ByteArray.mk #[(112 : UInt8)]),
 D.s (ByteArray.mk #[(113 : UInt8)]),
 (D.l [[D.s (ByteArray.mk #[(97 : UInt8)])]]).sub (0 : Nat) ((0 : Nat) + (1 : Nat))]]) =
 List.map cEm (List.range j)) ∧
 (decide ((↑i : Int) < IntKind.i64.wrap ((IntKind.u64.wrap a).tmod (4 : Int))) = false →
 (∃ (i_1 : Nat),
 i_1.le (m4 b) ∧
 (0 : Int) = (↑i_1 : Int) ∧
 a = a ∧
 b = b ∧
 c = c ∧
 i = m4 a ∧ i_1 = (0 : Nat) ∧ List.map cEm (List.range i) = List.map cEm (List.range (m4 a)) ∧ List.map rEm (List.range i_1) = []) ∧
 ∀ (i : Nat),
 i.le (m4 b) →
 (decide ((↑i : Int) < IntKind.i64.wrap ((IntKind.u64.wrap b).tmod (4 : Int))) = true →
 (0 : Nat) + (1 : Nat) ≤ (D.l [[D.i (↑i : Int), D.s (ByteArray.mk #[(97 : UInt8)]), D.i (0 : Int)]]).len ∧
 i = (cpTo i rEm).len ∧
 (i +
 ((D.l
 [[D.s (ByteArray.mk #[(99 : UInt8)]),
 (D.l [[D.i (↑i : Int), D.s (ByteArray.mk #[(97 : UInt8)]), D.i (0 : Int)]]).sub (0 : Nat)
 ((0 : Nat) + (1 : Nat))]]).sub
 (0 : Nat) ((0 : Nat) + (1 : Nat))).len) *
 (40 : Nat) ≤
 (140737488355328 : Nat) ∧
 (0 : Nat) + (1 : Nat) ≤
 (D.l
 [[D.s (ByteArray.mk #[(99 : UInt8)]),
 (D.l [[D.i (↑i : Int), D.s (ByteArray.mk #[(97 : UInt8)]), D.i (0 : Int)]]).sub (0 : Nat) ((0 : Nat) + (1 : Nat))]]).len ∧
 ∃ (j : Nat),
 j.le (m4 b) ∧
 (4 : Nat) - j < (4 : Nat) - i ∧
 IntKind.i64.wrap ((↑i : Int) + (1 : Int)) = (↑j : Int) ∧
 a = a ∧
 b = b ∧
 c = c ∧
 m4 a = m4 a ∧
 i +
 ((D.l
 [[D.s (ByteArray.mk #[(99 : UInt8)]),
 (D.l [[D.i (↑i : Int), D.s (ByteArray.mk #[(97 : UInt8)]), D.i (0 : Int)]]).sub (0 : Nat)
 ((0 : Nat) + (1 : Nat))]]).sub
 (0 : Nat) ((0 : Nat) + (1 : Nat))).len =
 j ∧
 List.map cEm (List.range (m4 a)) = List.map cEm (List.range (m4 a)) ∧
 List.map rEm (List.range i) ++
 List.drop (0 : Nat)
 (List.take ((0 : Nat) + (1 : Nat))
 [[D.s (ByteArray.mk #[(99 : UInt8)]),
 (D.l [[D.i (↑i : Int), D.s (ByteArray.mk #[(97 : UInt8)]), D.i (0 : Int)]]).sub (0 : Nat)
 ((0 : Nat) + (1 : Nat))]]) =
 List.map rEm (List.range j)) ∧
 (decide ((↑i : Int) < IntKind.i64.wrap ((IntKind.u64.wrap b).tmod (4 : Int))) = false →
 (∃ (i_1 : Nat),
 i_1.le (m4 c) ∧
 (0 : Int) = (↑i_1 : Int) ∧
 a = a ∧
 b = b ∧
 c = c ∧
 m4 a = m4 a ∧
 i = m4 b ∧
 i_1 = (0 : Nat) ∧
 List.map cEm (List.range (m4 a)) = List.map cEm (List.range (m4 a)) ∧
 List.map rEm (List.range i) = List.map rEm (List.range (m4 b)) ∧ List.map pEm (List.range i_1) = []) ∧
 ∀ (i : Nat),
 i.le (m4 c) →
 (decide ((↑i : Int) < IntKind.i64.wrap ((IntKind.u64.wrap c).tmod (4 : Int))) = true →
 i = (cpTo i pEm).len ∧
 (i + ((D.l [[D.s (ByteArray.mk #[(112 : UInt8)]), D.l [], D.l []]]).sub (0 : Nat) ((0 : Nat) + (1 : Nat))).len) * (64 : Nat) ≤
 (140737488355328 : Nat) ∧
 (0 : Nat) + (1 : Nat) ≤ (D.l [[D.s (ByteArray.mk #[(112 : UInt8)]), D.l [], D.l []]]).len ∧
 ∃ (j : Nat),
 j.le (m4 c) ∧
 (4 : Nat) - j < (4 : Nat) - i ∧
 IntKind.i64.wrap ((↑i : Int) + (1 : Int)) = (↑j : Int) ∧
 a = a ∧
 b = b ∧
 c = c ∧
 m4 a = m4 a ∧
 m4 b = m4 b ∧
 i +
 ((D.l [[D.s (ByteArray.mk #[(112 : UInt8)]), D.l [], D.l []]]).sub (0 : Nat)
 ((0 : Nat) + (1 : Nat))).len =
 j ∧
 List.map cEm (List.range (m4 a)) = List.map cEm (List.range (m4 a)) ∧
 List.map rEm (List.range (m4 b)) = List.map rEm (List.range (m4 b)) ∧
 List.map pEm (List.range i) ++
 List.drop (0 : Nat)
 (List.take ((0 : Nat) + (1 : Nat)) [[D.s (ByteArray.mk #[(112 : UInt8)]), D.l [], D.l []]]) =
 List.map pEm (List.range j)) ∧
 (decide ((↑i : Int) < IntKind.i64.wrap ((IntKind.u64.wrap c).tmod (4 : Int))) = false →
 (0 : Nat) + m4 a ≤ (cpTo (m4 a) cEm).len ∧
 (0 : Nat) + m4 b ≤ (cpTo (m4 b) rEm).len ∧
 (0 : Nat) + i ≤ (cpTo i pEm).len ∧
 SyS ((cpTo (m4 a) cEm).sub ((0 : Nat)) ((0 : Nat) + m4 a)) ((cpTo (m4 b) rEm).sub ((0 : Nat)) ((0 : Nat) + m4 b))
 ((cpTo i pEm).sub ((0 : Nat)) ((0 : Nat) + i)) ∧
 SyOK (cpC ((cpTo (m4 a) cEm).sub ((0 : Nat)) ((0 : Nat) + m4 a)))
 (cpU ((cpTo (m4 b) rEm).sub ((0 : Nat)) ((0 : Nat) + m4 b))) (cpP ((cpTo i pEm).sub ((0 : Nat)) ((0 : Nat) + i))) ∧
 (syB (cpC ((cpTo (m4 a) cEm).sub ((0 : Nat)) ((0 : Nat) + m4 a)))
 (cpU ((cpTo (m4 b) rEm).sub ((0 : Nat)) ((0 : Nat) + m4 b)))
 (cpP ((cpTo i pEm).sub ((0 : Nat)) ((0 : Nat) + i))) =
 true →
 syN (cpP ((cpTo i pEm).sub ((0 : Nat)) ((0 : Nat) + i))) = true →
 SyF (cpC ((cpTo (m4 a) cEm).sub ((0 : Nat)) ((0 : Nat) + m4 a)))
 (cpU ((cpTo (m4 b) rEm).sub ((0 : Nat)) ((0 : Nat) + m4 b)))
 (cpP ((cpTo i pEm).sub ((0 : Nat)) ((0 : Nat) + i)))) ∧
 (wdE (cpC ((cpTo (m4 a) cEm).sub ((0 : Nat)) ((0 : Nat) + m4 a)))
 (cpU ((cpTo (m4 b) rEm).sub ((0 : Nat)) ((0 : Nat) + m4 b)))
 (cpP ((cpTo i pEm).sub ((0 : Nat)) ((0 : Nat) + i))) ==
 (0 : Int) &&
 (↑(wdA (cpC ((cpTo (m4 a) cEm).sub ((0 : Nat)) ((0 : Nat) + m4 a)))
 (cpU ((cpTo (m4 b) rEm).sub ((0 : Nat)) ((0 : Nat) + m4 b)))
 (cpP ((cpTo i pEm).sub ((0 : Nat)) ((0 : Nat) + i)))).len :
 Int) ==
 IntKind.i64.wrap
 (IntKind.i64.wrap
 (IntKind.i64.wrap ((12 : Int) * (↑(m4 a) : Int)) + IntKind.i64.wrap ((8 : Int) * (↑(m4 b) : Int))) +
 IntKind.i64.wrap ((4 : Int) * (↑i : Int)))) =
 true)))) (by kernel_rfl) ?_
    have ma := m4_le a
    have mb := m4_le b
    have mc := m4_le c
    rw [m4_eq a, m4_eq b, m4_eq c]
    refine ⟨⟨0, Nat.zero_le _, by (repeat' apply And.intro) <;> rfl⟩, fun i hi => ⟨fun hc => ?_, fun hc => ?_⟩⟩
    · have hc := of_decide_eq_true hc
      have hi2 : i < m4 a := by omega
      have hw2 : IntKind.i64.wrap ((i : Int) + 1) = ((i + 1 : Nat) : Int) := by rw [IntWalk.i64_in _ (by omega)]; omega
      refine ⟨Nat.le_refl _, (cpTo_len _ _).symm, (show (i + 1) * 88 ≤ 140737488355328 by omega), Nat.le_refl _, i + 1, hi2, by omega, hw2, ?_⟩
      (repeat' apply And.intro) <;> first | exact (cpTo_succ i cEm).symm | rfl
    · have hc := of_decide_eq_false hc
      have hi3 : i = m4 a := by have : i ≤ m4 a := hi; omega
      subst hi3
      refine ⟨⟨0, Nat.zero_le _, by (repeat' apply And.intro) <;> rfl⟩, fun i hi => ⟨fun hc => ?_, fun hc => ?_⟩⟩
      · have hc := of_decide_eq_true hc
        have hi2 : i < m4 b := by omega
        have hw2 : IntKind.i64.wrap ((i : Int) + 1) = ((i + 1 : Nat) : Int) := by rw [IntWalk.i64_in _ (by omega)]; omega
        refine ⟨Nat.le_refl _, (cpTo_len _ _).symm, (show (i + 1) * 40 ≤ 140737488355328 by omega), Nat.le_refl _, i + 1, hi2, by omega, hw2, ?_⟩
        (repeat' apply And.intro) <;> first | exact (cpTo_succ i rEm).symm | rfl
      · have hc := of_decide_eq_false hc
        have hi3 : i = m4 b := by have : i ≤ m4 b := hi; omega
        subst hi3
        refine ⟨⟨0, Nat.zero_le _, by (repeat' apply And.intro) <;> rfl⟩, fun i hi => ⟨fun hc => ?_, fun hc => ?_⟩⟩
        · have hc := of_decide_eq_true hc
          have hi2 : i < m4 c := by omega
          have hw2 : IntKind.i64.wrap ((i : Int) + 1) = ((i + 1 : Nat) : Int) := by rw [IntWalk.i64_in _ (by omega)]; omega
          refine ⟨(cpTo_len _ _).symm, (show (i + 1) * 64 ≤ 140737488355328 by omega), Nat.le_refl _, i + 1, hi2, by omega, hw2, ?_⟩
          (repeat' apply And.intro) <;> first | exact (cpTo_succ i pEm).symm | rfl
        · have hc := of_decide_eq_false hc
          have hi3 : i = m4 c := by have : i ≤ m4 c := hi; omega
          subst hi3
          rw [cpTo_all, cpTo_all, cpTo_all, cpC_m, cpU_m, cpP_m]
          obtain ⟨w1, w2⟩ := wd_m ma mb mc
          refine ⟨by rw [cpTo_len]; omega, by rw [cpTo_len]; omega, by rw [cpTo_len]; omega, SyS_m ma mb mc, SyOK_m ma mb mc, fun _ _ => SyF_m ma mb mc, ?_⟩
          rw [w1, w2, IntWalk.i64_in (12 * (m4 a : Int)) (by omega), IntWalk.i64_in (8 * (m4 b : Int)) (by omega), IntWalk.i64_in (4 * (m4 c : Int)) (by omega), IntWalk.i64_in (12 * (m4 a : Int) + 8 * (m4 b : Int)) (by omega), IntWalk.i64_in _ (by omega)]
          simp
  · trivial
def allZ (l : List ByteArray) : Prop := ∀ w ∈ l, sz w
theorem allZ_nil : allZ [] := fun _ h => by cases h
theorem allZ_cons {a : ByteArray} {l : List ByteArray} (h : sz a) (hl : allZ l) : allZ (a :: l) := fun w hw => by
  rcases List.mem_cons.1 hw with rfl | hw
  · exact h
  · exact hl w hw
theorem allZ_app {l m : List ByteArray} (h : allZ l) (hm : allZ m) : allZ (l ++ m) := fun w hw => by
  rcases List.mem_append.1 hw with hw | hw
  · exact h w hw
  · exact hm w hw
theorem allZ_cat {n : Nat} {f : Nat → List ByteArray} (h : ∀ i, i < n → allZ (f i)) : allZ (catTo n f) := by
  induction n with
  | zero => exact allZ_nil
  | succ n ih =>
    rw [catTo_succ]
    exact allZ_app (ih fun i hi => h i (by omega)) (h n (by omega))
theorem sz2 {s : ByteArray} (h : s.size ≤ 10) : sz s := Nat.le_trans h (by decide)
theorem par_z {b : Bool} {l : List ByteArray} (h : allZ l) : allZ (par b l) := by
  unfold par
  split
  · exact allZ_cons (sz2 (by decide)) (allZ_app h (allZ_cons (sz2 (by decide)) allZ_nil))
  · exact h
theorem xWb_z {k n : Int} {s : ByteArray} {len : Nat} {q : Nat → Int} {f : Nat → List ByteArray} {F : Nat → Prop} (h : xFb k n s len F) (ih : ∀ j, F j → allZ (f j)) : allZ (xWb k n s q f) := by
  obtain ⟨h1, h2, h3, h4⟩ := h
  unfold xWb
  split
  · rename_i e
    have := itW_size (h1 e)
    exact allZ_cons (sz2 (by omega)) allZ_nil
  · split
    · rename_i e
      exact allZ_cons (h2 e) allZ_nil
    · split
      · rename_i e
        exact allZ_cons (sz2 (by decide)) (par_z (ih 0 (h3 e).2))
      · split
        · rename_i e
          have := biW_size k
          exact allZ_app (par_z (ih 0 (h4 e).2.1)) (allZ_cons (sz2 (by omega)) (par_z (ih 1 (h4 e).2.2)))
        · exact allZ_nil
theorem kW_z (d : D) (i : Nat) (h : kF d i) : allZ (kW d i) := by
  by_cases hi : i < d.len
  · rw [kW, dif_pos hi]
    rw [kF, dif_pos hi] at h
    exact xWb_z h fun j hj => kW_z (d.el i 3) j hj
  · rw [kW, dif_neg hi]
    exact allZ_nil
  termination_by SizeOf.sizeOf d
  decreasing_by exact lel_lt hi
theorem xW_z {k n : Int} {s : ByteArray} {d : D} (h : xF k n s d) : allZ (xW k n s d) := xWb_z h fun j hj => kW_z d j hj
theorem cW_z {op lk ln rk rn : Int} {ls rs : ByteArray} {ld rd : D} (h : cF lk ln ls ld rk rn rs rd) : allZ (cW op lk ln ls ld rk rn rs rd) := by
  have := cmW_size op
  exact allZ_cons (sz2 (by decide)) (allZ_app (xW_z h.1) (allZ_cons (sz2 (by omega)) (allZ_app (xW_z h.2) (allZ_cons (sz2 (by decide)) allZ_nil))))
theorem blW_z {l : List ByteArray} (h : allZ l) : allZ (blW l) := allZ_cons (sz2 (by decide)) (allZ_app h (allZ_cons (sz2 (by decide)) allZ_nil))
theorem stWF_z {k : Int} {nm tg : ByteArray} {e c b el a : List ByteArray} {hel : Bool} {E C B L A : Prop} (h : stFF k nm tg E C B L A) (he : E → allZ e) (hc : C → allZ c) (hb : B → allZ b) (hl : L → allZ el) (ha : A → allZ a) : allZ (stWF k nm tg e c b el hel a) := by
  obtain ⟨h1, h2, h3, h4, h5, h6, h7⟩ := h
  have t : ∀ {s : ByteArray}, s.size ≤ 10 → sz s := sz2
  unfold stWF
  split
  · rename_i q
    exact allZ_cons (h1 q).1 (allZ_cons (t (by decide)) (allZ_app (he (h1 q).2) (allZ_cons (t (by decide)) allZ_nil)))
  · split
    · rename_i q
      refine allZ_cons (t (by decide)) (allZ_app (hc (h2 q).1) (allZ_app (hb (h2 q).2.1) ?_))
      split
      · exact allZ_cons (t (by decide)) (hl (h2 q).2.2)
      · exact allZ_nil
    · split
      · rename_i q
        exact allZ_cons (t (by decide)) (allZ_app (hc (h3 q).1) (hb (h3 q).2))
      · split
        · rename_i q
          exact allZ_cons (t (by decide)) (allZ_cons (h4 q).1 (allZ_cons (t (by decide)) (allZ_cons (h4 q).2.1 (allZ_cons (t (by decide)) (allZ_app (he (h4 q).2.2) (allZ_cons (t (by decide)) (allZ_cons (t (by decide)) allZ_nil)))))))
        · split
          · rename_i q
            exact allZ_cons (t (by decide)) (allZ_cons (h5 q).1 (allZ_cons (t (by decide)) (allZ_app (ha (h5 q).2) (allZ_cons (t (by decide)) allZ_nil))))
          · split
            · rename_i q
              exact allZ_cons (t (by decide)) (allZ_app (hc (h6 q)) (allZ_cons (t (by decide)) allZ_nil))
            · split
              · rename_i q
                exact allZ_cons (t (by decide)) (allZ_cons (h7 q) (allZ_cons (t (by decide)) allZ_nil))
              · exact allZ_nil
theorem bW_z (d : D) (h : bF d) : allZ (bW d) := by
  rw [bW_eq]
  refine allZ_cat fun i hi => ?_
  have hs := ((bF_iff d).1 h).2 i hi
  exact stWF_z hs xW_z cW_z (fun hb => blW_z (bW_z (d.el i 16) hb)) (fun hb => blW_z (bW_z (d.el i 17) hb)) fun ha => allZ_cat fun j hj =>
    have ⟨a1, a2, a3⟩ := ha.2 j hj
    allZ_cons a1 (allZ_cons (sz2 (by decide)) (allZ_cons a2 (allZ_cons (sz2 (by decide)) (blW_z (bW_z ((d.el i 18).el j 2) a3)))))
  termination_by SizeOf.sizeOf d
  decreasing_by
    · exact lel_lt hi
    · exact lel_lt hi
    · exact Nat.lt_trans (lel_lt hj) (lel_lt hi)
theorem syW_z {ch ru pr : D} (h : SyF ch ru pr) : allZ (syW ch ru pr) := by
  have t : ∀ {s : ByteArray}, s.size ≤ 10 → sz s := sz2
  refine allZ_app (allZ_cat fun i hi => ?_) (allZ_app (allZ_cat fun i hi => ?_) (allZ_cat fun i hi => ?_))
  · obtain ⟨a, b, c, e, f, g⟩ := h.c i hi
    have h1 := chW_size (ch.el i 1).toI
    have h2 := itW_size b
    refine allZ_app (allZ_cons (t (by decide)) (allZ_cons a (allZ_cons (t (by omega)) (allZ_cons (t (by omega)) (allZ_cons (t (by decide)) (allZ_cons c (allZ_cons (t (by decide)) (allZ_cons e (allZ_cons (t (by decide)) allZ_nil))))))))) (allZ_app (allZ_cat fun j hj => ?_) (allZ_cons (t (by decide)) (allZ_cons (t (by decide)) allZ_nil)))
    unfold tgW
    split
    · exact allZ_cons (t (by decide)) (allZ_cons (g j hj) allZ_nil)
    · exact allZ_cons (g j hj) allZ_nil
  · obtain ⟨a, b, c⟩ := h.r i hi
    refine allZ_app (allZ_cons (t (by decide)) (allZ_cons a (allZ_cons (t (by decide)) allZ_nil))) (allZ_app (allZ_cat fun j hj => ?_) (allZ_cons (t (by decide)) allZ_nil))
    obtain ⟨x, y, z⟩ := c j hj
    have h1 := itW_size x
    have h2 := itW_size z
    exact allZ_cons (t (by omega)) (allZ_cons y (allZ_cons (t (by omega)) (allZ_cons (t (by decide)) allZ_nil)))
  · obtain ⟨a, b, c, e⟩ := h.p i hi
    exact allZ_app (allZ_cons (t (by decide)) (allZ_cons a (allZ_cons (t (by decide)) allZ_nil))) (allZ_app (allZ_cat fun j hj => allZ_cons (t (by decide)) (allZ_cons (c j hj) (allZ_cons (t (by decide)) allZ_nil))) (allZ_app (bW_z _ e) (allZ_cons (t (by decide)) allZ_nil)))
def kdN (i : Nat) : Int := if i = 0 then 1 else 3
def nuN (i : Nat) : Int := if i = 0 then 1 else 0
/-- So many Negs: what is in them. -/
def eKd : Nat → D
  | 0 => .l []
  | i + 1 => .l [[.i (kdN i), .i (nuN i), .s ByteArray.empty, eKd i]]
theorem eKd_cp : ∀ i, cpE (eKd i) = eKd i
  | 0 => cpE_nil
  | i + 1 => by
    rw [cpE_eq]
    show D.l [[.i (kdN i), .i (nuN i), .s ByteArray.empty, cpE (eKd i)]] = _
    rw [eKd_cp i]; rfl
theorem eKd_kS : ∀ i, kS (eKd i)
  | 0 => kS_nil
  | i + 1 => (kS_iff _).2 ⟨(show 1 ≤ 1000000 by decide), fun j h => lt_one (P := fun j => kS ((eKd (i + 1)).el j 3)) (eKd_kS i) h⟩
theorem eX_no : aX 1 1 ByteArray.empty (.l []) = true := by decide +kernel
theorem aX_neg {n : Int} {s : ByteArray} {d : D} : aX 3 n s d = ((d.len : Int) == 1 && aE d 0) := by
  unfold aX aXb
  rw [if_neg (by decide), if_neg (by decide), if_pos rfl]
theorem eKd_aE : ∀ i, aE (eKd (i + 1)) 0 = true
  | 0 => by
    rw [aE_eq (show 0 < (eKd 1).len by decide)]
    exact eX_no
  | i + 1 => by
    rw [aE_eq (show 0 < 1 by decide)]
    show aX 3 0 ByteArray.empty (eKd (i + 1)) = true
    rw [aX_neg, eKd_aE i]; rfl
theorem eKd_aX (i : Nat) : aX (kdN i) (nuN i) ByteArray.empty (eKd i) = true := by
  have h := eKd_aE i
  rw [aE_eq (show 0 < 1 by decide)] at h
  exact h
theorem eKd_kN : ∀ (i : Nat) (d : Int), kN (eKd (i + 1)) 0 d = decide (d + i ≤ 24)
  | 0, d => by
    rw [kN_eq (show 0 < 1 by decide)]
    show xN 1 (.l []) d = _
    unfold xN xNb
    split
    · rw [decide_eq_false (by omega)]
    · rw [if_neg (by decide), if_neg (by decide), decide_eq_true (by omega)]
  | i + 1, d => by
    rw [kN_eq (show 0 < 1 by decide)]
    show xN 3 (eKd (i + 1)) d = _
    unfold xN xNb
    have hb : brB 3 0 ((eKd (i + 1)).el 0 0).toI = false := by
      show brB 3 0 (kdN i) = false
      unfold brB kdN
      rw [if_pos rfl]
      split <;> decide
    split
    · rw [decide_eq_false (by omega)]
    · rw [if_pos rfl]
      show kN (eKd (i + 1)) 0 (d + 1 + inB (brB 3 0 ((eKd (i + 1)).el 0 0).toI)) = _
      rw [hb, eKd_kN i]
      have e : inB false = 0 := rfl
      rw [e]
      congr 1
      apply propext
      omega
theorem eKd_xN (i : Nat) : xN (kdN i) (eKd i) 0 = decide (i ≤ 24) := by
  have h := eKd_kN i 0
  rw [kN_eq (show 0 < 1 by decide)] at h
  have h : xN (kdN i) (eKd i) 0 = decide ((0 : Int) + i ≤ 24) := h
  rw [h]
  congr 1
  apply propext
  omega
theorem eKd_kF : ∀ i, kF (eKd (i + 1)) 0
  | 0 => by
    rw [kF_eq (show 0 < 1 by decide)]
    show xF 1 1 ByteArray.empty (.l [])
    exact ⟨fun _ => (by decide), fun h => absurd h (by decide), fun h => absurd h (by decide), fun h => absurd h (by decide)⟩
  | i + 1 => by
    rw [kF_eq (show 0 < 1 by decide)]
    show xF 3 0 ByteArray.empty (eKd (i + 1))
    exact ⟨fun h => absurd h (by decide), fun h => absurd h (by decide), fun _ => ⟨rfl, eKd_kF i⟩, fun h => absurd h (by decide)⟩
theorem eKd_xF (i : Nat) : xF (kdN i) (nuN i) ByteArray.empty (eKd i) := by
  have h := eKd_kF i
  rw [kF_eq (show 0 < 1 by decide)] at h
  exact h
theorem eKd_kW : ∀ i, (kW (eKd (i + 1)) 0).length = i + 1
  | 0 => by
    rw [kW_eq (show 0 < 1 by decide)]
    show (xW 1 1 ByteArray.empty (.l [])).length = 1
    unfold xW xWb
    rw [if_pos rfl]; rfl
  | i + 1 => by
    rw [kW_eq (show 0 < 1 by decide)]
    show (xW 3 0 ByteArray.empty (eKd (i + 1))).length = _
    unfold xW xWb
    have hb : brB 3 0 ((eKd (i + 1)).el 0 0).toI = false := by
      show brB 3 0 (kdN i) = false
      unfold brB kdN
      rw [if_pos rfl]
      split <;> decide
    rw [if_neg (by decide), if_neg (by decide), if_pos rfl]
    show (_ :: par (brB 3 0 ((eKd (i + 1)).el 0 0).toI) (kW (eKd (i + 1)) 0)).length = _
    rw [hb]
    show (kW (eKd (i + 1)) 0).length + 1 = _
    rw [eKd_kW i]
theorem eKd_xW (i : Nat) : (xW (kdN i) (nuN i) ByteArray.empty (eKd i)).length = i + 1 := by
  have h := eKd_kW i
  rw [kW_eq (show 0 < 1 by decide)] at h
  exact h
def gRow (k : Int) (nm : ByteArray) (ek en : Int) (ed : D) (op ck : Int) (l2 l3 b eb am : D) : List D := [.i k, .s nm, .s ByteArray.empty, .i ek, .i en, .s ByteArray.empty, ed, .i op, .i ck, .i 0, .s ByteArray.empty, l2, .i ck, .i 0, .s ByteArray.empty, l3, b, eb, am]
def lRow : Nat → List D
  | 0 => gRow 7 ⟨#[120]⟩ 0 0 (.l []) 0 0 (.l []) (.l []) (.l []) (.l []) (.l [])
  | j + 1 => gRow 3 ByteArray.empty 0 0 (.l []) 1 1 (.l []) (.l []) (.l [lRow j]) (.l []) (.l [])
/-- So many blocks. -/
def lKd (j : Nat) : D := .l [lRow j]
theorem lKd_cp : ∀ j, cpB (lKd j) = lKd j
  | 0 => by
    rw [cpB_eq]
    show D.l [gRow 7 ⟨#[120]⟩ 0 0 (cpE (.l [])) 0 0 (cpE (.l [])) (cpE (.l [])) (cpB (.l [])) (cpB (.l [])) (.l [])] = _
    rw [cpE_nil, cpB_nil]; rfl
  | j + 1 => by
    rw [cpB_eq]
    show D.l [gRow 3 ByteArray.empty 0 0 (cpE (.l [])) 1 1 (cpE (.l [])) (cpE (.l [])) (cpB (lKd j)) (cpB (.l [])) (.l [])] = _
    rw [cpE_nil, cpB_nil, lKd_cp j]; rfl
theorem lKd_bS : ∀ j, bS (lKd j)
  | 0 => (bS_iff _).2 ⟨(show 1 ≤ 1000000 by decide), fun i h => lt_one (P := fun i => kS ((lKd 0).el i 6) ∧ kS ((lKd 0).el i 11) ∧ kS ((lKd 0).el i 15) ∧ bS ((lKd 0).el i 16) ∧ bS ((lKd 0).el i 17) ∧ ((lKd 0).el i 18).len ≤ 1000000 ∧ ∀ q, q < ((lKd 0).el i 18).len → bS (((lKd 0).el i 18).el q 2)) ⟨kS_nil, kS_nil, kS_nil, bS_nil, bS_nil, Nat.zero_le _, fun q hq => absurd hq (Nat.not_lt_zero q)⟩ h⟩
  | j + 1 => (bS_iff _).2 ⟨(show 1 ≤ 1000000 by decide), fun i h => lt_one (P := fun i => kS ((lKd (j + 1)).el i 6) ∧ kS ((lKd (j + 1)).el i 11) ∧ kS ((lKd (j + 1)).el i 15) ∧ bS ((lKd (j + 1)).el i 16) ∧ bS ((lKd (j + 1)).el i 17) ∧ ((lKd (j + 1)).el i 18).len ≤ 1000000 ∧ ∀ q, q < ((lKd (j + 1)).el i 18).len → bS (((lKd (j + 1)).el i 18).el q 2)) ⟨kS_nil, kS_nil, kS_nil, lKd_bS j, bS_nil, Nat.zero_le _, fun q hq => absurd hq (Nat.not_lt_zero q)⟩ h⟩
theorem lKd_sOK : ∀ j, sOK (lKd j)
  | 0 => (sOK_iff _).2 ⟨(show 1 ≤ 1000000000000 by decide), fun i h => lt_one (P := fun i => sOK ((lKd 0).el i 16) ∧ sOK ((lKd 0).el i 17) ∧ amOK ((lKd 0).el i 18)) ⟨sOK_nil, sOK_nil, amOK_nil⟩ h⟩
  | j + 1 => (sOK_iff _).2 ⟨(show 1 ≤ 1000000000000 by decide), fun i h => lt_one (P := fun i => sOK ((lKd (j + 1)).el i 16) ∧ sOK ((lKd (j + 1)).el i 17) ∧ amOK ((lKd (j + 1)).el i 18)) ⟨lKd_sOK j, sOK_nil, amOK_nil⟩ h⟩
theorem eX_nil (s : ByteArray) : aX 1 0 s (.l []) = true := by
  unfold aX aXb
  rw [if_pos rfl]; decide
theorem aC_one : aC 1 1 0 ByteArray.empty (.l []) 1 0 ByteArray.empty (.l []) = true := by
  unfold aC
  rw [eX_nil]; rfl
theorem lKd_bA : ∀ j, bA (lKd j) = true
  | 0 => by
    rw [bA_eq]
    refine allB_yes fun i h => lt_one (P := fun i => stE (lKd 0) i = true) ?_ h
    show aStF 7 ⟨#[120]⟩ ByteArray.empty (aX 0 0 ByteArray.empty (.l [])) (aC 0 0 0 ByteArray.empty (.l []) 0 0 ByteArray.empty (.l [])) (bA (.l [])) (bA (.l [])) 0 (amA (.l [])) = true
    unfold aStF
    rw [if_neg (by decide), if_neg (by decide), if_neg (by decide), if_neg (by decide), if_neg (by decide), if_neg (by decide), if_pos rfl]
    exact nm_x
  | j + 1 => by
    rw [bA_eq]
    refine allB_yes fun i h => lt_one (P := fun i => stE (lKd (j + 1)) i = true) ?_ h
    show aStF 3 ByteArray.empty ByteArray.empty (aX 0 0 ByteArray.empty (.l [])) (aC 1 1 0 ByteArray.empty (.l []) 1 0 ByteArray.empty (.l [])) (bA (lKd j)) (bA (.l [])) 0 (amA (.l [])) = true
    unfold aStF
    rw [if_neg (by decide), if_neg (by decide), if_pos rfl, aC_one, lKd_bA j]; rfl
theorem xN_nil {k : Int} (h3 : k ≠ 3) (hb : biB k = false) : xN k (.l []) 0 = true := by
  unfold xN xNb
  rw [if_neg (by decide), if_neg h3, if_neg (by rw [hb]; decide)]
theorem cN_one : cN 1 (.l []) 1 (.l []) = true := by
  unfold cN
  rw [xN_nil (by decide) (by decide)]; rfl
theorem stNE_z (b : Int) : stNE (lKd 0) b 0 = true := by
  show stNF 7 (xN 0 (.l []) 0) (cN 0 (.l []) 0 (.l [])) (blN (.l []) b) (bN (.l []) (b + 1)) (amN (.l []) b) = true
  unfold stNF
  rw [if_neg (by decide), if_neg (by decide), if_neg (by decide), if_neg (by decide), if_neg (by decide)]
theorem lKd_bN : ∀ (j : Nat) (b : Int), bN (lKd j) b = decide ((j = 0) ∨ b + j ≤ 24)
  | 0, b => by
    rw [bN_eq, decide_eq_true (.inl rfl)]
    exact allB_yes fun i h => lt_one (P := fun i => stNE (lKd 0) b i = true) (stNE_z b) h
  | j + 1, b => by
    have e : stNE (lKd (j + 1)) b 0 = (!decide (b ≥ 24) && bN (lKd j) (b + 1)) := by
      show stNF 3 (xN 0 (.l []) 0) (cN 1 (.l []) 1 (.l [])) (blN (lKd j) b) (bN (.l []) (b + 1)) (amN (.l []) b) = _
      unfold stNF
      rw [if_neg (by decide), if_neg (by decide), if_neg (by decide), if_pos rfl, cN_one]; rfl
    have e2 : bN (lKd (j + 1)) b = stNE (lKd (j + 1)) b 0 := by
      rw [bN_eq]
      cases h : stNE (lKd (j + 1)) b 0 with
      | true => exact allB_yes fun i hi => lt_one (P := fun i => stNE (lKd (j + 1)) b i = true) h hi
      | false => exact allB_no (show 0 < 1 by decide) h
    rw [e2, e, lKd_bN j]
    by_cases hb : b ≥ 24
    · rw [decide_eq_true hb, show decide (j + 1 = 0 ∨ b + ((j + 1 : Nat) : Int) ≤ 24) = false from decide_eq_false (by omega)]; rfl
    · rw [decide_eq_false hb]
      show decide _ = decide _
      congr 1
      apply propext
      omega
theorem xF_0 (s : ByteArray) : xF 0 0 s (.l []) := ⟨fun h => absurd h (by decide), fun h => absurd h (by decide), fun h => absurd h (by decide), fun h => absurd h (by decide)⟩
theorem xF_1 (s : ByteArray) : xF 1 0 s (.l []) := ⟨fun _ => (by decide), fun h => absurd h (by decide), fun h => absurd h (by decide), fun h => absurd h (by decide)⟩
theorem lKd_bF : ∀ j, bF (lKd j)
  | 0 => (bF_iff _).2 ⟨(show 1 ≤ 1000000000000 by decide), fun i h => lt_one (P := stFE (lKd 0)) (show stFF 7 ⟨#[120]⟩ ByteArray.empty (xF 0 0 ByteArray.empty (.l [])) (cF 0 0 ByteArray.empty (.l []) 0 0 ByteArray.empty (.l [])) (bF (.l [])) (bF (.l [])) (amF (.l [])) from ⟨fun h => absurd h (by decide), fun h => absurd h (by decide), fun h => absurd h (by decide), fun h => absurd h (by decide), fun h => absurd h (by decide), fun h => absurd h (by decide), fun _ => sz1 _⟩) h⟩
  | j + 1 => (bF_iff _).2 ⟨(show 1 ≤ 1000000000000 by decide), fun i h => lt_one (P := stFE (lKd (j + 1))) (show stFF 3 ByteArray.empty ByteArray.empty (xF 0 0 ByteArray.empty (.l [])) (cF 1 0 ByteArray.empty (.l []) 1 0 ByteArray.empty (.l [])) (bF (lKd j)) (bF (.l [])) (amF (.l [])) from ⟨fun h => absurd h (by decide), fun h => absurd h (by decide), fun _ => ⟨⟨xF_1 _, xF_1 _⟩, lKd_bF j⟩, fun h => absurd h (by decide), fun h => absurd h (by decide), fun h => absurd h (by decide), fun h => absurd h (by decide)⟩) h⟩
theorem cW_one : (cW 1 1 0 ByteArray.empty (.l []) 1 0 ByteArray.empty (.l [])).length = 5 := by
  have e : xW 1 0 ByteArray.empty (.l []) = [itW 0] := by
    unfold xW xWb
    rw [if_pos rfl]
  unfold cW
  rw [e]; rfl
theorem lKd_bW : ∀ j, (bW (lKd j)).length = 8 * j + 3
  | 0 => by
    rw [bW_eq]
    show (stWF 7 ⟨#[120]⟩ ByteArray.empty (xW 0 0 ByteArray.empty (.l [])) (cW 0 0 0 ByteArray.empty (.l []) 0 0 ByteArray.empty (.l [])) (blW (bW (.l []))) (blW (bW (.l []))) false [] ++ []).length = 3
    unfold stWF
    rw [if_neg (by decide), if_neg (by decide), if_neg (by decide), if_neg (by decide), if_neg (by decide), if_neg (by decide), if_pos rfl]; rfl
  | j + 1 => by
    rw [bW_eq]
    show (stWF 3 ByteArray.empty ByteArray.empty (xW 0 0 ByteArray.empty (.l [])) (cW 1 1 0 ByteArray.empty (.l []) 1 0 ByteArray.empty (.l [])) (blW (bW (lKd j))) (blW (bW (.l []))) false [] ++ []).length = _
    unfold stWF blW
    rw [if_neg (by decide), if_neg (by decide), if_pos rfl]
    simp only [List.append_nil, List.length_cons, List.length_append, List.length_nil, cW_one, lKd_bW j]
    omega
theorem lt_two {i : Nat} {P : Nat → Prop} (h0 : P 0) (h1 : P 1) (h : i < 2) : P i := by
  obtain rfl | rfl : i = 0 ∨ i = 1 := by omega
  · exact h0
  · exact h1
def asg (i : Nat) : List D := gRow 1 ⟨#[120]⟩ (kdN i) (nuN i) (eKd i) 0 0 (.l []) (.l []) (.l []) (.l []) (.l [])
/-- Blocks, and an assignment. -/
def lTwo (j i : Nat) : D := .l [lRow j, asg i]
theorem lTwo_cp (j i : Nat) : cpB (lTwo j i) = lTwo j i := by
  have h := lKd_cp j
  rw [cpB_eq] at h
  have h : D.l [rSt (lKd j) 0] = D.l [lRow j] := h
  have h0 : rSt (lKd j) 0 = lRow j := by injection h with h; injection h
  rw [cpB_eq]
  show D.l [rSt (lKd j) 0, gRow 1 ⟨#[120]⟩ (kdN i) (nuN i) (cpE (eKd i)) 0 0 (cpE (.l [])) (cpE (.l [])) (cpB (.l [])) (cpB (.l [])) (.l [])] = _
  rw [h0, cpE_nil, cpB_nil, eKd_cp]; rfl
theorem lTwo_bS (j i : Nat) : bS (lTwo j i) := (bS_iff _).2 ⟨(show 2 ≤ 1000000 by decide), fun q h => lt_two (P := fun q => kS ((lTwo j i).el q 6) ∧ kS ((lTwo j i).el q 11) ∧ kS ((lTwo j i).el q 15) ∧ bS ((lTwo j i).el q 16) ∧ bS ((lTwo j i).el q 17) ∧ ((lTwo j i).el q 18).len ≤ 1000000 ∧ ∀ r, r < ((lTwo j i).el q 18).len → bS (((lTwo j i).el q 18).el r 2)) (((bS_iff _).1 (lKd_bS j)).2 0 (show 0 < 1 by decide)) ⟨eKd_kS i, kS_nil, kS_nil, bS_nil, bS_nil, Nat.zero_le _, fun r hr => absurd hr (Nat.not_lt_zero r)⟩ h⟩
theorem lTwo_sOK (j i : Nat) : sOK (lTwo j i) := (sOK_iff _).2 ⟨(show 2 ≤ 1000000000000 by decide), fun q h => lt_two (P := fun q => sOK ((lTwo j i).el q 16) ∧ sOK ((lTwo j i).el q 17) ∧ amOK ((lTwo j i).el q 18)) (((sOK_iff _).1 (lKd_sOK j)).2 0 (show 0 < 1 by decide)) ⟨sOK_nil, sOK_nil, amOK_nil⟩ h⟩
theorem asg_A (j i : Nat) : stE (lTwo j i) 1 = true := by
  show aStF 1 ⟨#[120]⟩ ByteArray.empty (aX (kdN i) (nuN i) ByteArray.empty (eKd i)) (aC 0 0 0 ByteArray.empty (.l []) 0 0 ByteArray.empty (.l [])) (bA (.l [])) (bA (.l [])) 0 (amA (.l [])) = true
  unfold aStF
  rw [if_pos rfl, nm_x, eKd_aX]; rfl
theorem lTwo_bA (j i : Nat) : bA (lTwo j i) = true := by
  have h := lKd_bA j
  rw [bA_eq] at h
  rw [bA_eq]
  exact allB_yes fun q hq => lt_two (P := fun q => stE (lTwo j i) q = true) (allB_iff.1 h 0 (show 0 < 1 by decide)) (asg_A j i) hq
theorem asg_N (j i : Nat) : stNE (lTwo j i) 0 1 = decide (i ≤ 24) := by
  show stNF 1 (xN (kdN i) (eKd i) 0) (cN 0 (.l []) 0 (.l [])) (blN (.l []) 0) (bN (.l []) 1) (amN (.l []) 0) = _
  unfold stNF
  rw [if_pos (Or.inl rfl), eKd_xN]
theorem row_N (j i : Nat) : stNE (lTwo j i) 0 0 = bN (lKd j) 0 := by
  have e : stNE (lTwo j i) 0 0 = stNE (lKd j) 0 0 := rfl
  rw [bN_eq, e]
  cases h : stNE (lKd j) 0 0 with
  | true => exact (allB_yes fun q hq => lt_one (P := fun q => stNE (lKd j) 0 q = true) h hq).symm
  | false => exact (allB_no (show 0 < 1 by decide) h).symm
theorem lTwo_bN (j i : Nat) : bN (lTwo j i) 0 = decide ((j = 0 ∨ j ≤ 24) ∧ i ≤ 24) := by
  have h0 := row_N j i
  have h1 := asg_N j i
  rw [lKd_bN] at h0
  rw [bN_eq]
  by_cases hj : j = 0 ∨ (0 : Int) + j ≤ 24
  · rw [decide_eq_true hj] at h0
    by_cases hi : i ≤ 24
    · rw [decide_eq_true hi] at h1
      rw [decide_eq_true (show (j = 0 ∨ j ≤ 24) ∧ i ≤ 24 by omega)]
      exact allB_yes fun q hq => lt_two (P := fun q => stNE (lTwo j i) 0 q = true) h0 h1 hq
    · rw [decide_eq_false hi] at h1
      rw [decide_eq_false (show ¬((j = 0 ∨ j ≤ 24) ∧ i ≤ 24) by omega)]
      exact allB_no (show 1 < 2 by decide) h1
  · rw [decide_eq_false hj] at h0
    rw [decide_eq_false (show ¬((j = 0 ∨ j ≤ 24) ∧ i ≤ 24) by omega)]
    exact allB_no (show 0 < 2 by decide) h0
theorem lTwo_bF (j i : Nat) : bF (lTwo j i) := (bF_iff _).2 ⟨(show 2 ≤ 1000000000000 by decide), fun q h => lt_two (P := stFE (lTwo j i)) (((bF_iff _).1 (lKd_bF j)).2 0 (show 0 < 1 by decide)) (show stFF 1 ⟨#[120]⟩ ByteArray.empty (xF (kdN i) (nuN i) ByteArray.empty (eKd i)) (cF 0 0 ByteArray.empty (.l []) 0 0 ByteArray.empty (.l [])) (bF (.l [])) (bF (.l [])) (amF (.l [])) from ⟨fun _ => ⟨sz1 _, eKd_xF i⟩, fun h => absurd h (by decide), fun h => absurd h (by decide), fun h => absurd h (by decide), fun h => absurd h (by decide), fun h => absurd h (by decide), fun h => absurd h (by decide)⟩) h⟩
def m9 (a : Int) : Nat := 20 + (IntKind.u64.wrap a).toNat % 9
def eN (neg : Bool) (i : Nat) : Nat := if neg = true then i else 0
def lN (neg : Bool) (i : Nat) : Nat := if neg = true then 0 else i
theorem m9_in (a : Int) : 20 ≤ m9 a ∧ m9 a ≤ 28 := by unfold m9; omega
theorem m9_eq (a : Int) : IntKind.i64.wrap (20 + IntKind.i64.wrap ((IntKind.u64.wrap a).tmod 9)) = (m9 a : Int) := by
  have h0 : 0 ≤ IntKind.u64.wrap a := by rw [IntKind.wrap_u64]; omega
  have e : (IntKind.u64.wrap a).tmod 9 = ((IntKind.u64.wrap a).toNat % 9 : Nat) := by
    rw [Int.tmod_eq_emod_of_nonneg h0]
    omega
  rw [e, IntWalk.i64_in (((IntKind.u64.wrap a).toNat % 9 : Nat) : Int) (by omega), IntWalk.i64_in _ (by omega)]
  unfold m9
  omega
theorem wdA_sz {ch ru pr : D} (h : syB ch ru pr = true → syN pr = true → SyF ch ru pr) (i : Nat) (hi : i < (wdA ch ru pr).len) : ((wdA ch ru pr).el i 0).toS.size ≤ 1000000000 := by
  by_cases h0 : wdE ch ru pr = 0
  · have hF : SyF ch ru pr := by
      cases hB : syB ch ru pr with
      | false => rw [wd5 hB] at h0; cases h0
      | true =>
        cases hN : syN pr with
        | false => rw [wd6 hB hN] at h0; cases h0
        | true => exact h hB hN
    have e : wdA ch ru pr = wsR ((syW ch ru pr).take 2001) := by
      rw [wdA, if_pos h0]
      show D.l ((([] : List (List D)) ++ (syW ch ru pr).map sR).take 2001) = _
      rw [List.nil_append, ← List.map_take]; rfl
    rw [e] at hi ⊢
    rw [wsR_len] at hi
    rw [wsR_el hi]
    exact syW_z hF _ (List.mem_of_mem_take (List.getElem_mem hi))
  · rw [wdA, if_neg h0] at hi
    exact absurd hi (Nat.not_lt_zero i)
def dP (j i : Nat) : D := .l [[.s ⟨#[112]⟩, .l [], lTwo j i]]
theorem dP_cp (j i : Nat) : cpP (dP j i) = dP j i := by
  show D.l [[.s ⟨#[112]⟩, .l [], cpB (lTwo j i)]] = _
  rw [lTwo_cp]; rfl
theorem dP_S (j i : Nat) : SyS (.l []) (.l []) (dP j i) := ⟨Nat.zero_le _, fun q h => absurd h (Nat.not_lt_zero q), Nat.zero_le _, fun q h => absurd h (Nat.not_lt_zero q), (show 1 ≤ 1000000 by decide), fun q h => lt_one (P := fun q => ((dP j i).el q 1).len ≤ 1000000) (Nat.zero_le _) h, fun q h => lt_one (P := fun q => bS ((dP j i).el q 2)) (lTwo_bS j i) h⟩
theorem dP_K (j i : Nat) : SyOK (.l []) (.l []) (dP j i) := ⟨Nat.zero_le _, fun q h => absurd h (Nat.not_lt_zero q), Nat.zero_le _, fun q h => absurd h (Nat.not_lt_zero q), (show 1 ≤ 1000000000000 by decide), fun q h => lt_one (P := fun q => ((dP j i).el q 1).len ≤ 1000000000000) (Nat.zero_le _) h, fun q h => lt_one (P := fun q => sOK ((dP j i).el q 2)) (lTwo_sOK j i) h⟩
theorem dP_F (j i : Nat) : SyF (.l []) (.l []) (dP j i) := ⟨fun q h => absurd h (Nat.not_lt_zero q), fun q h => absurd h (Nat.not_lt_zero q), fun q h => lt_one (P := fun q => prF ((dP j i).el q 0).toS ((dP j i).el q 1) ((dP j i).el q 2)) ⟨sz1 _, Nat.zero_le _, fun r hr => absurd hr (Nat.not_lt_zero r), lTwo_bF j i⟩ h⟩
theorem dP_B (j i : Nat) : syB (.l []) (.l []) (dP j i) = true := by
  have h : allB (dP j i).len (prE (dP j i)) = true := allB_yes fun q hq => lt_one (P := fun q => prE (dP j i) q = true) (by
    show (nmB ⟨#[112]⟩ && true && bA (lTwo j i)) = true
    rw [nm_p, lTwo_bA]; rfl) hq
  unfold syB
  rw [h]; rfl
theorem dP_N (j i : Nat) : syN (dP j i) = decide ((j = 0 ∨ j ≤ 24) ∧ i ≤ 24) := by
  rw [← lTwo_bN]
  unfold syN
  cases h : bN (lTwo j i) 0 with
  | true => exact allB_yes fun q hq => lt_one (P := fun q => prNE (dP j i) q = true) h hq
  | false => exact allB_no (show 0 < 1 by decide) h
theorem dP_W (j i : Nat) : (syW (.l []) (.l []) (dP j i)).length = 8 * j + i + 11 := by
  have h := lKd_bW j
  rw [bW_eq] at h
  have h : (stWE (lKd j) 0 ++ ([] : List ByteArray)).length = 8 * j + 3 := h
  have e : (bW (lTwo j i)).length = 8 * j + i + 7 := by
    rw [bW_eq]
    show (stWE (lKd j) 0 ++ ((ByteArray.mk #[120] :: ByteArray.mk #[61] :: (xW (kdN i) (nuN i) ByteArray.empty (eKd i) ++ [ByteArray.mk #[59]])) ++ [])).length = _
    simp only [List.length_append, List.length_cons, List.length_nil, eKd_xW] at h ⊢
    omega
  show ([⟨#[112, 114, 111, 99]⟩, ⟨#[112]⟩, ⟨#[123]⟩] ++ ([] ++ (bW (lTwo j i) ++ [⟨#[125]⟩])) ++ [] : List ByteArray).length = _
  simp only [List.length_append, List.length_cons, List.length_nil, e]
  omega
theorem dP_E {j i : Nat} (hj : j ≤ 30) (hi : i ≤ 30) : wdE (.l []) (.l []) (dP j i) = if (j = 0 ∨ j ≤ 24) ∧ i ≤ 24 then 0 else 6 := by
  split
  · rename_i h
    refine wd0 (dP_B j i) (by rw [dP_N, decide_eq_true h]) ?_
    unfold wdD
    rw [cat_len, dP_W]
    show ¬ ((min 2001 (0 + (8 * j + i + 11)) : Nat) : Int) > 2000
    omega
  · rename_i h
    exact wd6 (dP_B j i) (by rw [dP_N, decide_eq_false h])
theorem eKd_sub : ∀ i, (eKd i).sub 0 (0 + (eKd i).len) = eKd i
  | 0 => rfl
  | _ + 1 => rfl
theorem fin_d {x : Int} {k : Nat} (h : x = if k ≤ 24 then 0 else 6) : ((x == 0) == decide ((k : Int) ≤ 24) && (x == 0 || x == 6)) = true := by
  by_cases hk : k ≤ 24
  · rw [if_pos hk] at h
    rw [h, decide_eq_true (by omega)]; rfl
  · rw [if_neg hk] at h
    rw [h, decide_eq_false (by omega)]; rfl
noncomputable def deeS : FSpec := fun ds _ => match ds with
  | [.i a, .b neg] => some { val := .one (.sc (.bool (.lit true))), vc := [] }
  | _ => none
noncomputable def deeC : Con := con [lI, .sc .bool] deeS
theorem dee_ok : ConOK Tryd.prog 3 deeC := by
  refine fn_ob tt_ok mixed Tryd.func3 rfl (fun _ _ => by kernel_rfl) (A := fun ds => ⟨fun _ => Cons.of [(9, ycpC), (8, txC), (10, txtsC)], fun k => match k, ds with | 5, [.i a, .b neg] => some { ι := Nat, pre := fun _ i => i ≤ m9 a, μ := fun i => 30 - i, st := fun s i => famR s [(8, .one (.sc (.int .i64 (.sym ((i : Nat)))))), (5, .one (.sc (.int .i64 (.sym ((m9 a : Nat)))))), (7, .one (.sc (.osl 31 (s.nx - 1) (.lit 0) (.sym ((lKd (lN neg i)).len)))))] [0, 1, 6] [(idOf s 6, .own 25 ([.c (.int .i64 (.sym (kdN (eN neg i)))), .c (.int .i64 (.sym (nuN (eN neg i)))), .c (.raw (.string (ByteArray.empty))), .c (.osl 25 (s.nx - 2) (.lit 0) (.sym (eKd (eN neg i)).len))])), (s.nx - 2, .orow 25 (eKd (eN neg i))), (s.nx - 1, .orow 31 (lKd (lN neg i)))] [] } | _, _ => none, fun _ => none⟩) (fun _ _ => (cons_cons ycp_ok (cons_cons tx_ok (cons_cons txts_ok cons_nil)))) (by kernel_rfl) ?_
  intro ds fr
  unfold deeS
  split
  · rename_i a neg
    refine kmp (q := (∃ (i : Nat),
 i.le (m9 a) ∧
 (0 : Int) = (↑i : Int) ∧
 IntKind.i64.wrap ((20 : Int) + IntKind.i64.wrap ((IntKind.u64.wrap a).tmod (9 : Int))) = (↑(m9 a) : Int) ∧
 (1 : Nat) = (1 : Nat) ∧
 a = a ∧
 neg = neg ∧
 (1 : Int) = kdN (eN neg i) ∧
 (1 : Int) = nuN (eN neg i) ∧
 Value.string ByteArray.empty = Value.string ByteArray.empty ∧
 (eKd (eN neg i)).len = (0 : Nat) ∧
 (eKd (eN neg i)).rows = [] ∧
 [[D.i (7 : Int), D.s (ByteArray.mk #[(120 : UInt8)]), D.s ByteArray.empty, D.i (0 : Int), D.i (0 : Int), D.s ByteArray.empty, D.l [],
 D.i (0 : Int), D.i (0 : Int), D.i (0 : Int), D.s ByteArray.empty, D.l [], D.i (0 : Int), D.i (0 : Int), D.s ByteArray.empty,
 D.l [], D.l [], D.l [], D.l []]] =
 [lRow (lN neg i)]) ∧
 ∀ (i : Nat),
 i.le (m9 a) →
 (decide ((↑i : Int) < (↑(m9 a) : Int)) = true →
 (neg = true →
 (0 : Nat) + (eKd (eN neg i)).len ≤ (eKd (eN neg i)).len ∧
 ∃ (j : Nat),
 j.le (m9 a) ∧
 (30 : Nat) - j < (30 : Nat) - i ∧
 IntKind.i64.wrap ((↑i : Int) + (1 : Int)) = (↑j : Int) ∧
 (↑(m9 a) : Int) = (↑(m9 a) : Int) ∧
 (1 : Nat) = (1 : Nat) ∧
 a = a ∧
 neg = neg ∧
 (3 : Int) = kdN (eN neg j) ∧
 (0 : Int) = nuN (eN neg j) ∧
 Value.string ByteArray.empty = Value.string ByteArray.empty ∧
 (1 : Nat) = (eKd (eN neg j)).len ∧
 [[D.i (kdN (eN neg i)), D.i (nuN (eN neg i)), D.s ByteArray.empty,
 (eKd (eN neg i)).sub ((0 : Nat)) ((0 : Nat) + (eKd (eN neg i)).len)]] =
 (eKd (eN neg j)).rows ∧
 [lRow (lN neg i)] = [lRow (lN neg j)]) ∧
 (neg = false →
 (0 : Nat) + (1 : Nat) ≤ (lKd (lN neg i)).len ∧
 ∃ (j : Nat),
 j.le (m9 a) ∧
 (30 : Nat) - j < (30 : Nat) - i ∧
 IntKind.i64.wrap ((↑i : Int) + (1 : Int)) = (↑j : Int) ∧
 (↑(m9 a) : Int) = (↑(m9 a) : Int) ∧
 (1 : Nat) = (1 : Nat) ∧
 a = a ∧
 neg = neg ∧
 kdN (eN neg i) = kdN (eN neg j) ∧
 nuN (eN neg i) = nuN (eN neg j) ∧
 Value.string ByteArray.empty = Value.string ByteArray.empty ∧
 (eKd (eN neg i)).len = (eKd (eN neg j)).len ∧
 (eKd (eN neg i)).rows = (eKd (eN neg j)).rows ∧
 [[D.i (3 : Int), D.s ByteArray.empty, D.s ByteArray.empty, D.i (0 : Int), D.i (0 : Int), D.s ByteArray.empty, D.l [],
 D.i (1 : Int), D.i (1 : Int), D.i (0 : Int), D.s ByteArray.empty, D.l [], D.i (1 : Int), D.i (0 : Int),
 D.s ByteArray.empty, D.l [], (lKd (lN neg i)).sub ((0 : Nat)) ((0 : Nat) + (1 : Nat)), D.l [], D.l []]] =
 [lRow (lN neg j)])) ∧
 (decide ((↑i : Int) < (↑(m9 a) : Int)) = false →
 (0 : Nat) + (eKd (eN neg i)).len ≤ (eKd (eN neg i)).len ∧
 (1 : Nat) = (lKd (lN neg i)).len ∧
 ((1 : Nat) +
 ((D.l
 [[D.i (1 : Int), D.s (ByteArray.mk #[(120 : UInt8)]), D.s ByteArray.empty, D.i (kdN (eN neg i)), D.i (nuN (eN neg i)),
 D.s ByteArray.empty, (eKd (eN neg i)).sub ((0 : Nat)) ((0 : Nat) + (eKd (eN neg i)).len), D.i (0 : Int), D.i (0 : Int),
 D.i (0 : Int), D.s ByteArray.empty, D.l [], D.i (0 : Int), D.i (0 : Int), D.s ByteArray.empty, D.l [], D.l [], D.l [],
 D.l []]]).sub
 (0 : Nat) ((0 : Nat) + (1 : Nat))).len) *
 (288 : Nat) ≤
 (140737488355328 : Nat) ∧
 (0 : Nat) + (1 : Nat) ≤
 (D.l
 [[D.i (1 : Int), D.s (ByteArray.mk #[(120 : UInt8)]), D.s ByteArray.empty, D.i (kdN (eN neg i)), D.i (nuN (eN neg i)), D.s ByteArray.empty,
 (eKd (eN neg i)).sub ((0 : Nat)) ((0 : Nat) + (eKd (eN neg i)).len), D.i (0 : Int), D.i (0 : Int), D.i (0 : Int),
 D.s ByteArray.empty, D.l [], D.i (0 : Int), D.i (0 : Int), D.s ByteArray.empty, D.l [], D.l [], D.l [], D.l []]]).len ∧
 (0 : Nat) + (2 : Nat) ≤
 ((lKd (lN neg i)).app
 ((D.l
 [[D.i (1 : Int), D.s (ByteArray.mk #[(120 : UInt8)]), D.s ByteArray.empty, D.i (kdN (eN neg i)), D.i (nuN (eN neg i)),
 D.s ByteArray.empty, (eKd (eN neg i)).sub ((0 : Nat)) ((0 : Nat) + (eKd (eN neg i)).len), D.i (0 : Int), D.i (0 : Int),
 D.i (0 : Int), D.s ByteArray.empty, D.l [], D.i (0 : Int), D.i (0 : Int), D.s ByteArray.empty, D.l [], D.l [], D.l [],
 D.l []]]).sub
 (0 : Nat) ((0 : Nat) + (1 : Nat)))).len ∧
 (0 : Nat) + (1 : Nat) ≤
 (D.l
 [[D.s (ByteArray.mk #[(112 : UInt8)]), D.l [],
 ((lKd (lN neg i)).app
 ((D.l
 [[D.i (1 : Int), D.s (ByteArray.mk #[(120 : UInt8)]), D.s ByteArray.empty, D.i (kdN (eN neg i)), D.i (nuN (eN neg i)),
 D.s ByteArray.empty, (eKd (eN neg i)).sub ((0 : Nat)) ((0 : Nat) + (eKd (eN neg i)).len), D.i (0 : Int),
 D.i (0 : Int), D.i (0 : Int), D.s ByteArray.empty, D.l [], D.i (0 : Int), D.i (0 : Int), D.s ByteArray.empty,
 D.l [], D.l [], D.l [], D.l []]]).sub
 (0 : Nat) ((0 : Nat) + (1 : Nat)))).sub
 ((0 : Nat)) ((0 : Nat) + (2 : Nat))]]).len ∧
 SyS (D.l []) (D.l [])
 ((D.l
 [[D.s (ByteArray.mk #[(112 : UInt8)]), D.l [],
 ((lKd (lN neg i)).app
 ((D.l
 [[D.i (1 : Int), D.s (ByteArray.mk #[(120 : UInt8)]), D.s ByteArray.empty, D.i (kdN (eN neg i)),
 D.i (nuN (eN neg i)), D.s ByteArray.empty,
 (eKd (eN neg i)).sub ((0 : Nat)) ((0 : Nat) + (eKd (eN neg i)).len), D.i (0 : Int), D.i (0 : Int),
 D.i (0 : Int), D.s ByteArray.empty, D.l [], D.i (0 : Int), D.i (0 : Int), D.s ByteArray.empty, D.l [],
 D.l [], D.l [], D.l []]]).sub
 (0 : Nat) ((0 : Nat) + (1 : Nat)))).sub
 ((0 : Nat)) ((0 : Nat) + (2 : Nat))]]).sub
 (0 : Nat) ((0 : Nat) + (1 : Nat))) ∧
 SyOK (cpC (D.l [])) (cpU (D.l []))
 (cpP
 ((D.l
 [[D.s (ByteArray.mk #[(112 : UInt8)]), D.l [],
 ((lKd (lN neg i)).app
 ((D.l
 [[D.i (1 : Int), D.s (ByteArray.mk #[(120 : UInt8)]), D.s ByteArray.empty, D.i (kdN (eN neg i)),
 D.i (nuN (eN neg i)), D.s ByteArray.empty,
 (eKd (eN neg i)).sub ((0 : Nat)) ((0 : Nat) + (eKd (eN neg i)).len), D.i (0 : Int), D.i (0 : Int),
 D.i (0 : Int), D.s ByteArray.empty, D.l [], D.i (0 : Int), D.i (0 : Int), D.s ByteArray.empty, D.l [],
 D.l [], D.l [], D.l []]]).sub
 (0 : Nat) ((0 : Nat) + (1 : Nat)))).sub
 ((0 : Nat)) ((0 : Nat) + (2 : Nat))]]).sub
 (0 : Nat) ((0 : Nat) + (1 : Nat)))) ∧
 (syB (cpC (D.l [])) (cpU (D.l []))
 (cpP
 ((D.l
 [[D.s (ByteArray.mk #[(112 : UInt8)]), D.l [],
 ((lKd (lN neg i)).app
 ((D.l
 [[D.i (1 : Int), D.s (ByteArray.mk #[(120 : UInt8)]), D.s ByteArray.empty, D.i (kdN (eN neg i)),
 D.i (nuN (eN neg i)), D.s ByteArray.empty,
 (eKd (eN neg i)).sub ((0 : Nat)) ((0 : Nat) + (eKd (eN neg i)).len), D.i (0 : Int), D.i (0 : Int),
 D.i (0 : Int), D.s ByteArray.empty, D.l [], D.i (0 : Int), D.i (0 : Int), D.s ByteArray.empty,
 D.l [], D.l [], D.l [], D.l []]]).sub
 (0 : Nat) ((0 : Nat) + (1 : Nat)))).sub
 ((0 : Nat)) ((0 : Nat) + (2 : Nat))]]).sub
 (0 : Nat) ((0 : Nat) + (1 : Nat)))) =
 true →
 syN
 (cpP
 ((D.l
 [[D.s (ByteArray.mk #[(112 : UInt8)]), D.l [],
 ((lKd (lN neg i)).app
 ((D.l
 [[D.i (1 : Int), D.s (ByteArray.mk #[(120 : UInt8)]), D.s ByteArray.empty, D.i (kdN (eN neg i)),
 D.i (nuN (eN neg i)), D.s ByteArray.empty,
 (eKd (eN neg i)).sub ((0 : Nat)) ((0 : Nat) + (eKd (eN neg i)).len), D.i (0 : Int),
 D.i (0 : Int), D.i (0 : Int), D.s ByteArray.empty, D.l [], D.i (0 : Int), D.i (0 : Int),
 D.s ByteArray.empty, D.l [], D.l [], D.l [], D.l []]]).sub
 (0 : Nat) ((0 : Nat) + (1 : Nat)))).sub
 ((0 : Nat)) ((0 : Nat) + (2 : Nat))]]).sub
 (0 : Nat) ((0 : Nat) + (1 : Nat)))) =
 true →
 SyF (cpC (D.l [])) (cpU (D.l []))
 (cpP
 ((D.l
 [[D.s (ByteArray.mk #[(112 : UInt8)]), D.l [],
 ((lKd (lN neg i)).app
 ((D.l
 [[D.i (1 : Int), D.s (ByteArray.mk #[(120 : UInt8)]), D.s ByteArray.empty, D.i (kdN (eN neg i)),
 D.i (nuN (eN neg i)), D.s ByteArray.empty,
 (eKd (eN neg i)).sub ((0 : Nat)) ((0 : Nat) + (eKd (eN neg i)).len), D.i (0 : Int), D.i (0 : Int),
 D.i (0 : Int), D.s ByteArray.empty, D.l [], D.i (0 : Int), D.i (0 : Int), D.s ByteArray.empty,
 D.l [], D.l [], D.l [], D.l []]]).sub
 (0 : Nat) ((0 : Nat) + (1 : Nat)))).sub
 ((0 : Nat)) ((0 : Nat) + (2 : Nat))]]).sub
 (0 : Nat) ((0 : Nat) + (1 : Nat))))) ∧
 (∀ (i_1 : Nat),
 i_1 <
 (wdA (cpC (D.l [])) (cpU (D.l []))
 (cpP
 ((D.l
 [[D.s (ByteArray.mk #[(112 : UInt8)]), D.l [],
 ((lKd (lN neg i)).app
 ((D.l
 [[D.i (1 : Int), D.s (ByteArray.mk #[(120 : UInt8)]), D.s ByteArray.empty, D.i (kdN (eN neg i)),
 D.i (nuN (eN neg i)), D.s ByteArray.empty,
 (eKd (eN neg i)).sub ((0 : Nat)) ((0 : Nat) + (eKd (eN neg i)).len), D.i (0 : Int),
 D.i (0 : Int), D.i (0 : Int), D.s ByteArray.empty, D.l [], D.i (0 : Int), D.i (0 : Int),
 D.s ByteArray.empty, D.l [], D.l [], D.l [], D.l []]]).sub
 (0 : Nat) ((0 : Nat) + (1 : Nat)))).sub
 ((0 : Nat)) ((0 : Nat) + (2 : Nat))]]).sub
 (0 : Nat) ((0 : Nat) + (1 : Nat))))).len →
 ((wdA (cpC (D.l [])) (cpU (D.l []))
 (cpP
 ((D.l
 [[D.s (ByteArray.mk #[(112 : UInt8)]), D.l [],
 ((lKd (lN neg i)).app
 ((D.l
 [[D.i (1 : Int), D.s (ByteArray.mk #[(120 : UInt8)]), D.s ByteArray.empty,
 D.i (kdN (eN neg i)), D.i (nuN (eN neg i)), D.s ByteArray.empty,
 (eKd (eN neg i)).sub ((0 : Nat)) ((0 : Nat) + (eKd (eN neg i)).len), D.i (0 : Int),
 D.i (0 : Int), D.i (0 : Int), D.s ByteArray.empty, D.l [], D.i (0 : Int),
 D.i (0 : Int), D.s ByteArray.empty, D.l [], D.l [], D.l [], D.l []]]).sub
 (0 : Nat) ((0 : Nat) + (1 : Nat)))).sub
 ((0 : Nat)) ((0 : Nat) + (2 : Nat))]]).sub
 (0 : Nat) ((0 : Nat) + (1 : Nat))))).el
 i_1 (0 : Nat)).toS.size ≤
 (1000000000 : Nat)) ∧
 ((wdE (cpC (D.l [])) (cpU (D.l []))
 (cpP
 ((D.l
 [[D.s (ByteArray.mk #[(112 : UInt8)]), D.l [],
 ((lKd (lN neg i)).app
 ((D.l
 [[D.i (1 : Int), D.s (ByteArray.mk #[(120 : UInt8)]), D.s ByteArray.empty, D.i (kdN (eN neg i)),
 D.i (nuN (eN neg i)), D.s ByteArray.empty,
 (eKd (eN neg i)).sub ((0 : Nat)) ((0 : Nat) + (eKd (eN neg i)).len), D.i (0 : Int),
 D.i (0 : Int), D.i (0 : Int), D.s ByteArray.empty, D.l [], D.i (0 : Int), D.i (0 : Int),
 D.s ByteArray.empty, D.l [], D.l [], D.l [], D.l []]]).sub
 (0 : Nat) ((0 : Nat) + (1 : Nat)))).sub
 ((0 : Nat)) ((0 : Nat) + (2 : Nat))]]).sub
 (0 : Nat) ((0 : Nat) + (1 : Nat)))) ==
 (0 : Int)) ==
 decide ((↑(m9 a) : Int) ≤ (24 : Int)) &&
 (wdE (cpC (D.l [])) (cpU (D.l []))
 (cpP
 ((D.l
 [[D.s (ByteArray.mk #[(112 : UInt8)]), D.l [],
 ((lKd (lN neg i)).app
 ((D.l
 [[D.i (1 : Int), D.s (ByteArray.mk #[(120 : UInt8)]), D.s ByteArray.empty, D.i (kdN (eN neg i)),
 D.i (nuN (eN neg i)), D.s ByteArray.empty,
 (eKd (eN neg i)).sub ((0 : Nat)) ((0 : Nat) + (eKd (eN neg i)).len), D.i (0 : Int),
 D.i (0 : Int), D.i (0 : Int), D.s ByteArray.empty, D.l [], D.i (0 : Int), D.i (0 : Int),
 D.s ByteArray.empty, D.l [], D.l [], D.l [], D.l []]]).sub
 (0 : Nat) ((0 : Nat) + (1 : Nat)))).sub
 ((0 : Nat)) ((0 : Nat) + (2 : Nat))]]).sub
 (0 : Nat) ((0 : Nat) + (1 : Nat)))) ==
 (0 : Int) ||
 wdE (cpC (D.l [])) (cpU (D.l []))
 (cpP
 ((D.l
 [[D.s (ByteArray.mk #[(112 : UInt8)]), D.l [],
 ((lKd (lN neg i)).app
 ((D.l
 [[D.i (1 : Int), D.s (ByteArray.mk #[(120 : UInt8)]), D.s ByteArray.empty, D.i (kdN (eN neg i)),
 D.i (nuN (eN neg i)), D.s ByteArray.empty,
 (eKd (eN neg i)).sub ((0 : Nat)) ((0 : Nat) + (eKd (eN neg i)).len), D.i (0 : Int),
 D.i (0 : Int), D.i (0 : Int), D.s ByteArray.empty, D.l [], D.i (0 : Int), D.i (0 : Int),
 D.s ByteArray.empty, D.l [], D.l [], D.l [], D.l []]]).sub
 (0 : Nat) ((0 : Nat) + (1 : Nat)))).sub
 ((0 : Nat)) ((0 : Nat) + (2 : Nat))]]).sub
 (0 : Nat) ((0 : Nat) + (1 : Nat)))) ==
 (6 : Int))) =
 true)) (by kernel_rfl) ?_
    have hm := m9_in a
    rw [m9_eq a]
    refine ⟨⟨0, Nat.zero_le _, ?_⟩, fun i hi => ⟨fun hc => ⟨fun hn => ?_, fun hn => ?_⟩, fun hc => ?_⟩⟩
    · cases neg <;> ((repeat' apply And.intro) <;> rfl)
    · subst hn
      have hc := of_decide_eq_true hc
      have hi2 : i < m9 a := by omega
      have hw2 : IntKind.i64.wrap ((i : Int) + 1) = ((i + 1 : Nat) : Int) := by rw [IntWalk.i64_in _ (by omega)]; omega
      rw [eKd_sub]
      refine ⟨Nat.le_of_eq (Nat.zero_add _), i + 1, hi2, by omega, hw2, ?_⟩
      (repeat' apply And.intro) <;> rfl
    · subst hn
      have hc := of_decide_eq_true hc
      have hi2 : i < m9 a := by omega
      have hw2 : IntKind.i64.wrap ((i : Int) + 1) = ((i + 1 : Nat) : Int) := by rw [IntWalk.i64_in _ (by omega)]; omega
      refine ⟨Nat.le_of_eq (Nat.zero_add _), i + 1, hi2, by omega, hw2, ?_⟩
      (repeat' apply And.intro) <;> rfl
    · have hc := of_decide_eq_false hc
      have hi3 : i = m9 a := by have : i ≤ m9 a := hi; omega
      subst hi3
      rw [eKd_sub]
      have hF : SyF (.l []) (.l []) (cpP (dP (lN neg (m9 a)) (eN neg (m9 a)))) := by rw [dP_cp]; exact dP_F _ _
      have e : wdE (.l []) (.l []) (cpP (dP (lN neg (m9 a)) (eN neg (m9 a)))) = if m9 a ≤ 24 then 0 else 6 := by
        rw [dP_cp, dP_E (by unfold lN; split <;> omega) (by unfold eN; split <;> omega)]
        have key : ((lN neg (m9 a) = 0 ∨ lN neg (m9 a) ≤ 24) ∧ eN neg (m9 a) ≤ 24) ↔ m9 a ≤ 24 := by
          cases neg with
          | true => exact ⟨fun h => h.2, fun h => ⟨.inl rfl, h⟩⟩
          | false => exact ⟨fun h => h.1.elim (fun h => by have h : m9 a = 0 := h; omega) id, fun h => ⟨.inr h, Nat.zero_le _⟩⟩
        by_cases h : m9 a ≤ 24
        · rw [if_pos (key.2 h), if_pos h]
        · rw [if_neg (mt key.1 h), if_neg h]
      refine ⟨Nat.le_of_eq (Nat.zero_add _), rfl, (show (1 + 1) * 288 ≤ 140737488355328 by decide), Nat.le_refl _, Nat.le_refl _, Nat.le_refl _, dP_S _ _, ?_, fun _ _ => hF, wdA_sz fun _ _ => hF, fin_d e⟩
      show SyOK (.l []) (.l []) (cpP (dP (lN neg (m9 a)) (eN neg (m9 a))))
      rw [dP_cp]; exact dP_K _ _
  · trivial
end Go.Proofs.YtehblppfclpojaaDoor.Sx.Z
