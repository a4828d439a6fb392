/-
  AstEmpty's contract.
-/
import Derived.Test.YtehblppfclpojaaDoorLu
namespace Go.Proofs.YtehblppfclpojaaDoor.Sx.Z
open Go.RowKit
def m4 (a : Int) : Nat := (IntKind.u64.wrap a).toNat % 4
def cEm (i : Nat) : List D := [.s ⟨#[99]⟩, .i ((i : Int).tmod 3), .i (i : Int), .s ⟨#[112]⟩, .s ⟨#[113]⟩, .l [[.s ⟨#[97]⟩]]]
def rEm (i : Nat) : List D := [.s ⟨#[99]⟩, .l [[.i (i : Int), .s ⟨#[97]⟩, .i 0]]]
def pEm (_ : Nat) : List D := [.s ⟨#[112]⟩, .l [], .l []]
theorem m4_le (a : Int) : m4 a ≤ 3 := by unfold m4; omega
theorem m4_eq (a : Int) : IntKind.i64.wrap ((IntKind.u64.wrap a).tmod 4) = (m4 a : Int) := by
  have h0 : 0 ≤ IntKind.u64.wrap a := by rw [IntKind.wrap_u64]; omega
  have e : (IntKind.u64.wrap a).tmod 4 = (m4 a : Int) := by
    rw [Int.tmod_eq_emod_of_nonneg h0]
    unfold m4
    omega
  have := m4_le a
  rw [e, IntWalk.i64_in _ (by omega)]
theorem cpTo_el {n i j : Nat} {f : Nat → List D} (h : i < n) : (cpTo n f).el i j = (f i).getD j (.i 0) := by
  show (((List.range n).map f).getD i []).getD j (.i 0) = _
  rw [List.getD_eq_getElem?_getD (l := (List.range n).map f), List.getElem?_map, List.getElem?_range h]; rfl
theorem cpTo_congr {n : Nat} {f g : Nat → List D} (h : ∀ i, i < n → f i = g i) : cpTo n f = cpTo n g := by
  unfold cpTo
  congr 1
  exact List.map_congr_left fun i hi => h i (List.mem_range.1 hi)
theorem catTo_const {n k : Nat} {f : Nat → List ByteArray} (h : ∀ i, i < n → (f i).length = k) : (catTo n f).length = n * k := by
  induction n with
  | zero => simp [catTo]
  | succ n ih =>
    rw [catTo_succ, List.length_append, ih fun i hi => h i (by omega), h n (by omega), Nat.add_mul]; omega
theorem cpC_m (n : Nat) : cpC (cpTo n cEm) = cpTo n cEm := by
  unfold cpC
  rw [cpTo_len]
  refine cpTo_congr fun i hi => ?_
  unfold chR
  simp only [cpTo_el hi]; rfl
theorem cpU_m (n : Nat) : cpU (cpTo n rEm) = cpTo n rEm := by
  unfold cpU
  rw [cpTo_len]
  refine cpTo_congr fun i hi => ?_
  unfold ruR
  simp only [cpTo_el hi]; rfl
theorem cpP_m (n : Nat) : cpP (cpTo n pEm) = cpTo n pEm := by
  unfold cpP
  rw [cpTo_len]
  refine cpTo_congr fun i hi => ?_
  unfold prR
  simp only [cpTo_el hi]
  show [D.s ⟨#[112]⟩, .l [], cpB (.l [])] = _
  rw [cpB_nil]; rfl
theorem SyS_m {n m p : Nat} (h1 : n ≤ 3) (h2 : m ≤ 3) (h3 : p ≤ 3) : SyS (cpTo n cEm) (cpTo m rEm) (cpTo p pEm) := by
  refine ⟨by rw [cpTo_len]; omega, fun i h => ?_, by rw [cpTo_len]; omega, fun i h => ?_, by rw [cpTo_len]; omega, fun i h => ?_, fun i h => ?_⟩ <;> rw [cpTo_len] at h <;> rw [cpTo_el h]
  · show 1 ≤ 1000000
    decide
  · show 1 ≤ 1000000
    decide
  · exact Nat.zero_le _
  · exact bS_nil
theorem SyOK_m {n m p : Nat} (h1 : n ≤ 3) (h2 : m ≤ 3) (h3 : p ≤ 3) : SyOK (cpTo n cEm) (cpTo m rEm) (cpTo p pEm) := by
  refine ⟨by rw [cpTo_len]; omega, fun i h => ?_, by rw [cpTo_len]; omega, fun i h => ?_, by rw [cpTo_len]; omega, fun i h => ?_, fun i h => ?_⟩ <;> rw [cpTo_len] at h <;> rw [cpTo_el h]
  · show 1 ≤ 1000000000000
    decide
  · show 1 ≤ 1000000000000
    decide
  · exact Nat.zero_le _
  · exact sOK_nil
theorem sz1 (c : UInt8) : sz ⟨#[c]⟩ := by show 1 ≤ 1000000000; decide
theorem SyF_m {n m p : Nat} (h1 : n ≤ 3) (h2 : m ≤ 3) (_h3 : p ≤ 3) : SyF (cpTo n cEm) (cpTo m rEm) (cpTo p pEm) := by
  refine ⟨fun i h => ?_, fun i h => ?_, fun i h => ?_⟩ <;> rw [cpTo_len] at h <;> simp only [cpTo_el h]
  · exact ⟨sz1 _, (show 0 ≤ (i : Int) ∧ (i : Int) < 100 by omega), sz1 _, sz1 _, (show 1 ≤ 1000000000000 by decide), fun j hj => lt_one (P := fun j => sz ((D.l [[.s ⟨#[97]⟩]]).el j 0).toS) (sz1 _) hj⟩
  · exact ⟨sz1 _, (show 1 ≤ 1000000000000 by decide), fun j hj => lt_one (P := fun j => sm ((D.l [[.i (i : Int), .s ⟨#[97]⟩, .i 0]]).el j 0).toI ∧ sz ((D.l [[.i (i : Int), .s ⟨#[97]⟩, .i 0]]).el j 1).toS ∧ sm ((D.l [[.i (i : Int), .s ⟨#[97]⟩, .i 0]]).el j 2).toI) ⟨(show 0 ≤ (i : Int) ∧ (i : Int) < 100 by omega), sz1 _, (show (0 : Int) ≤ 0 ∧ (0 : Int) < 100 by decide)⟩ hj⟩
  · exact ⟨sz1 _, Nat.zero_le _, fun j hj => absurd hj (Nat.not_lt_zero j), bF_nil⟩
theorem nm_c : nmB ⟨#[99]⟩ = true := by decide +kernel
theorem nm_q : nmB ⟨#[113]⟩ = true := by decide +kernel
theorem bA_nil : bA (.l []) = true := by rw [bA_eq]; rfl
theorem bN_nil (b : Int) : bN (.l []) b = true := by rw [bN_eq]; rfl
theorem bW_nil : bW (.l []) = [] := by rw [bW_eq]; rfl
theorem nuB_in {x : Int} (h : 0 ≤ x ∧ x < 100) : nuB x = true := by
  unfold nuB
  rw [decide_eq_true h.1, decide_eq_true (show x ≤ 2147483647 by omega)]; rfl
theorem syB_m {n m p : Nat} (h1 : n ≤ 3) (h2 : m ≤ 3) : syB (cpTo n cEm) (cpTo m rEm) (cpTo p pEm) = true := by
  unfold syB
  simp only [Bool.and_eq_true]
  refine ⟨allB_yes fun i h => ?_, allB_yes fun i h => ?_, allB_yes fun i h => ?_⟩ <;> rw [cpTo_len] at h
  · unfold chE
    simp only [cpTo_el h]
    show (nmB ⟨#[99]⟩ && decide ((i : Int).tmod 3 ≥ 0) && decide ((i : Int).tmod 3 ≤ 2) && nuB (i : Int) && nmB ⟨#[112]⟩ && nmB ⟨#[113]⟩ && true && (nmB ⟨#[97]⟩ && true)) = true
    have e : (i : Int).tmod 3 = (i : Int) % 3 := Int.tmod_eq_emod_of_nonneg (by omega)
    rw [nm_c, nm_p, nm_q, nm_a, nuB_in (by omega), e, decide_eq_true (show (i : Int) % 3 ≥ 0 by omega), decide_eq_true (show (i : Int) % 3 ≤ 2 by omega)]; rfl
  · unfold ruE
    simp only [cpTo_el h]
    show (((nuB (i : Int) && nmB ⟨#[97]⟩ && nuB 0) && true) && nmB ⟨#[99]⟩) = true
    rw [nm_c, nm_a, nuB_in (by omega), nuB_in (by omega)]; rfl
  · unfold prE
    simp only [cpTo_el h]
    show (nmB ⟨#[112]⟩ && true && bA (.l [])) = true
    rw [nm_p, bA_nil]; rfl
theorem syN_m (p : Nat) : syN (cpTo p pEm) = true := allB_yes fun i h => by
  rw [cpTo_len] at h
  unfold prNE
  rw [cpTo_el h]
  exact bN_nil 0
theorem syW_m (n m p : Nat) : (syW (cpTo n cEm) (cpTo m rEm) (cpTo p pEm)).length = 12 * n + 8 * m + 4 * p := by
  unfold syW
  rw [List.length_append, List.length_append, cpTo_len, cpTo_len, cpTo_len]
  have c1 : (catTo n (chWE (cpTo n cEm))).length = n * 12 := catTo_const fun i h => by
    unfold chWE; simp only [cpTo_el h]; rfl
  have c2 : (catTo m (ruWE (cpTo m rEm))).length = m * 8 := catTo_const fun i h => by
    unfold ruWE; simp only [cpTo_el h]; rfl
  have c3 : (catTo p (prWE (cpTo p pEm))).length = p * 4 := catTo_const fun i h => by
    unfold prWE
    simp only [cpTo_el h]
    show ([⟨#[112, 114, 111, 99]⟩, ⟨#[112]⟩, ⟨#[123]⟩] ++ ([] ++ (bW (.l []) ++ [⟨#[125]⟩])) : List ByteArray).length = 4
    rw [bW_nil]; rfl
  rw [c1, c2, c3]
  omega
theorem wd_m {n m p : Nat} (h1 : n ≤ 3) (h2 : m ≤ 3) (h3 : p ≤ 3) : wdE (cpTo n cEm) (cpTo m rEm) (cpTo p pEm) = 0 ∧ (wdA (cpTo n cEm) (cpTo m rEm) (cpTo p pEm)).len = 12 * n + 8 * m + 4 * p := by
  have el : (wdD (cpTo n cEm) (cpTo m rEm) (cpTo p pEm)).len = 12 * n + 8 * m + 4 * p := by
    unfold wdD
    rw [cat_len, syW_m]
    show min 2001 (0 + _) = _
    omega
  have e0 := wd0 (syB_m (p := p) h1 h2) (syN_m p) (ch := cpTo n cEm) (ru := cpTo m rEm) (by rw [el]; omega)
  exact ⟨e0, by rw [wdA, if_pos e0, el]⟩
noncomputable def empS : FSpec := fun ds _ => match ds with
  | [.i _a, .i _b, .i _c] => some { val := .one (.sc (.bool (.lit true))), vc := [] }
  | _ => none
noncomputable def empC : Con := con [lI, lI, lI] empS
theorem emp_ok : ConOK Tryd.prog 5 empC := by
  refine fn_ob tt_ok mixed Tryd.func5 rfl (fun _ _ => by kernel_rfl) (A := fun ds => ⟨fun _ => Cons.of [(9, ycpC), (11, wrdC), (10, txtsC)], fun k => match k, ds with | 3, [.i a, .i b, .i c] => some { ι := Nat, pre := fun _ i => i ≤ m4 a, μ := fun i => 4 - i, st := fun s i => famR s [(8, .one (.sc (.int .i64 (.sym ((i : Nat))))))] [0, 1, 2, 7] [(idOf s 7, .own 48 ([.c (.osl 55 (s.nx - 1) (.lit 0) (.sym (i))), .c .nils, .c .nils])), (s.nx - 1, .orow 55 (cpTo (i) cEm))] [] } | 7, [.i a, .i b, .i c] => some { ι := Nat, pre := fun _ i => i ≤ m4 b, μ := fun i => 4 - i, st := fun s i => famR s [(9, .one (.sc (.int .i64 (.sym ((i : Nat))))))] [0, 1, 2, 7] [(idOf s 7, .own 48 ([.c (.osl 55 (cellId s 7 0) (.lit 0) (.sym (m4 a))), .c (.osl 60 (s.nx - 1) (.lit 0) (.sym (i))), .c .nils])), (cellId s 7 0, .orow 55 (cpTo (m4 a) cEm)), (s.nx - 1, .orow 60 (cpTo (i) rEm))] [] } | 11, [.i a, .i b, .i c] => some { ι := Nat, pre := fun _ i => i ≤ m4 c, μ := fun i => 4 - i, st := fun s i => famR s [(10, .one (.sc (.int .i64 (.sym ((i : Nat))))))] [0, 1, 2, 7] [(idOf s 7, .own 48 ([.c (.osl 55 (cellId s 7 0) (.lit 0) (.sym (m4 a))), .c (.osl 60 (cellId s 7 1) (.lit 0) (.sym (m4 b))), .c (.osl 43 (s.nx - 1) (.lit 0) (.sym (i)))])), (cellId s 7 0, .orow 55 (cpTo (m4 a) cEm)), (cellId s 7 1, .orow 60 (cpTo (m4 b) rEm)), (s.nx - 1, .orow 43 (cpTo (i) pEm))] [] } | _, _ => none, fun _ => none⟩) (fun _ _ => (cons_cons ycp_ok (cons_cons wrd_ok (cons_cons txts_ok cons_nil)))) (by kernel_rfl) ?_
  intro ds fr
  unfold empS
  split
  · rename_i a b c
    refine kmp (q := (∃ (i : Nat), i.le (m4 a) ∧ (0 : Int) = (↑i : Int) ∧ a = a ∧ b = b ∧ c = c ∧ i = (0 : Nat) ∧ List.map cEm (List.range i) = []) ∧
 ∀ (i : Nat),
 i.le (m4 a) →
 (decide ((↑i : Int) < IntKind.i64.wrap ((IntKind.u64.wrap a).tmod (4 : Int))) = true →
 (0 : Nat) + (1 : Nat) ≤ (D.l [[D.s (ByteArray.mk #[(97 : UInt8)])]]).len ∧
 i = (cpTo i cEm).len ∧
 (i +
 ((D.l
 [[D.s (ByteArray.mk #[(99 : UInt8)]), D.i ((↑i : Int).tmod (3 : Int)), D.i (↑i : Int), D.s (ByteArray.mk #[(112 : UInt8)]),
 D.s (ByteArray.mk #[(113 : UInt8)]), (D.l [[D.s (ByteArray.mk #[(97 : UInt8)])]]).sub (0 : Nat) ((0 : Nat) + (1 : Nat))]]).sub
 (0 : Nat) ((0 : Nat) + (1 : Nat))).len) *
 (88 : Nat) ≤
 (140737488355328 : Nat) ∧
 (0 : Nat) + (1 : Nat) ≤
 (D.l
 [[D.s (ByteArray.mk #[(99 : UInt8)]), D.i ((↑i : Int).tmod (3 : Int)), D.i (↑i : Int), D.s (ByteArray.mk #[(112 : UInt8)]),
 D.s (ByteArray.mk #[(113 : UInt8)]), (D.l [[D.s (ByteArray.mk #[(97 : UInt8)])]]).sub (0 : Nat) ((0 : Nat) + (1 : Nat))]]).len ∧
 ∃ (j : Nat),
 j.le (m4 a) ∧
 (4 : Nat) - j < (4 : Nat) - i ∧
 IntKind.i64.wrap ((↑i : Int) + (1 : Int)) = (↑j : Int) ∧
 a = a ∧
 b = b ∧
 c = c ∧
 i +
 ((D.l
 [[D.s (ByteArray.mk #[(99 : UInt8)]), D.i ((↑i : Int).tmod (3 : Int)), D.i (↑i : Int),
 D.s (ByteArray.mk #[(112 : UInt8)]), D.s (ByteArray.mk #[(113 : UInt8)]),
 (D.l [[D.s (ByteArray.mk #[(97 : UInt8)])]]).sub (0 : Nat) ((0 : Nat) + (1 : Nat))]]).sub
 (0 : Nat) ((0 : Nat) + (1 : Nat))).len =
 j ∧
 List.map cEm (List.range i) ++
 List.drop (0 : Nat)
 (List.take ((0 : Nat) + (1 : Nat))
 [[D.s (ByteArray.mk #[(99 : UInt8)]), D.i ((↑i : Int).tmod (3 : Int)), D.i (↑i : Int), D.s (ByteArray.mk #[(112 : UInt8)]),
 D.s (ByteArray.mk #[(113 : UInt8)]),
 (D.l [[D.s (ByteArray.mk #[(97 : UInt8)])]]).sub (0 : Nat) ((0 : Nat) + (1 : Nat))]]) =
 List.map cEm (List.range j)) ∧
 (decide ((↑i : Int) < IntKind.i64.wrap ((IntKind.u64.wrap a).tmod (4 : Int))) = false →
 (∃ (i_1 : Nat),
 i_1.le (m4 b) ∧
 (0 : Int) = (↑i_1 : Int) ∧
 a = a ∧
 b = b ∧
 c = c ∧
 i = m4 a ∧ i_1 = (0 : Nat) ∧ List.map cEm (List.range i) = List.map cEm (List.range (m4 a)) ∧ List.map rEm (List.range i_1) = []) ∧
 ∀ (i : Nat),
 i.le (m4 b) →
 (decide ((↑i : Int) < IntKind.i64.wrap ((IntKind.u64.wrap b).tmod (4 : Int))) = true →
 (0 : Nat) + (1 : Nat) ≤ (D.l [[D.i (↑i : Int), D.s (ByteArray.mk #[(97 : UInt8)]), D.i (0 : Int)]]).len ∧
 i = (cpTo i rEm).len ∧
 (i +
 ((D.l
 [[D.s (ByteArray.mk #[(99 : UInt8)]),
 (D.l [[D.i (↑i : Int), D.s (ByteArray.mk #[(97 : UInt8)]), D.i (0 : Int)]]).sub (0 : Nat)
 ((0 : Nat) + (1 : Nat))]]).sub
 (0 : Nat) ((0 : Nat) + (1 : Nat))).len) *
 (40 : Nat) ≤
 (140737488355328 : Nat) ∧
 (0 : Nat) + (1 : Nat) ≤
 (D.l
 [[D.s (ByteArray.mk #[(99 : UInt8)]),
 (D.l [[D.i (↑i : Int), D.s (ByteArray.mk #[(97 : UInt8)]), D.i (0 : Int)]]).sub (0 : Nat) ((0 : Nat) + (1 : Nat))]]).len ∧
 ∃ (j : Nat),
 j.le (m4 b) ∧
 (4 : Nat) - j < (4 : Nat) - i ∧
 IntKind.i64.wrap ((↑i : Int) + (1 : Int)) = (↑j : Int) ∧
 a = a ∧
 b = b ∧
 c = c ∧
 m4 a = m4 a ∧
 i +
 ((D.l
 [[D.s (ByteArray.mk #[(99 : UInt8)]),
 (D.l [[D.i (↑i : Int), D.s (ByteArray.mk #[(97 : UInt8)]), D.i (0 : Int)]]).sub (0 : Nat)
 ((0 : Nat) + (1 : Nat))]]).sub
 (0 : Nat) ((0 : Nat) + (1 : Nat))).len =
 j ∧
 List.map cEm (List.range (m4 a)) = List.map cEm (List.range (m4 a)) ∧
 List.map rEm (List.range i) ++
 List.drop (0 : Nat)
 (List.take ((0 : Nat) + (1 : Nat))
 [[D.s (ByteArray.mk #[(99 : UInt8)]),
 (D.l [[D.i (↑i : Int), D.s (ByteArray.mk #[(97 : UInt8)]), D.i (0 : Int)]]).sub (0 : Nat)
 ((0 : Nat) + (1 : Nat))]]) =
 List.map rEm (List.range j)) ∧
 (decide ((↑i : Int) < IntKind.i64.wrap ((IntKind.u64.wrap b).tmod (4 : Int))) = false →
 (∃ (i_1 : Nat),
 i_1.le (m4 c) ∧
 (0 : Int) = (↑i_1 : Int) ∧
 a = a ∧
 b = b ∧
 c = c ∧
 m4 a = m4 a ∧
 i = m4 b ∧
 i_1 = (0 : Nat) ∧
 List.map cEm (List.range (m4 a)) = List.map cEm (List.range (m4 a)) ∧
 List.map rEm (List.range i) = List.map rEm (List.range (m4 b)) ∧ List.map pEm (List.range i_1) = []) ∧
 ∀ (i : Nat),
 i.le (m4 c) →
 (decide ((↑i : Int) < IntKind.i64.wrap ((IntKind.u64.wrap c).tmod (4 : Int))) = true →
 i = (cpTo i pEm).len ∧
 (i + ((D.l [[D.s (ByteArray.mk #[(112 : UInt8)]), D.l [], D.l []]]).sub (0 : Nat) ((0 : Nat) + (1 : Nat))).len) * (64 : Nat) ≤
 (140737488355328 : Nat) ∧
 (0 : Nat) + (1 : Nat) ≤ (D.l [[D.s (ByteArray.mk #[(112 : UInt8)]), D.l [], D.l []]]).len ∧
 ∃ (j : Nat),
 j.le (m4 c) ∧
 (4 : Nat) - j < (4 : Nat) - i ∧
 IntKind.i64.wrap ((↑i : Int) + (1 : Int)) = (↑j : Int) ∧
 a = a ∧
 b = b ∧
 c = c ∧
 m4 a = m4 a ∧
 m4 b = m4 b ∧
 i +
 ((D.l [[D.s (ByteArray.mk #[(112 : UInt8)]), D.l [], D.l []]]).sub (0 : Nat)
 ((0 : Nat) + (1 : Nat))).len =
 j ∧
 List.map cEm (List.range (m4 a)) = List.map cEm (List.range (m4 a)) ∧
 List.map rEm (List.range (m4 b)) = List.map rEm (List.range (m4 b)) ∧
 List.map pEm (List.range i) ++
 List.drop (0 : Nat)
 (List.take ((0 : Nat) + (1 : Nat)) [[D.s (ByteArray.mk #[(112 : UInt8)]), D.l [], D.l []]]) =
 List.map pEm (List.range j)) ∧
 (decide ((↑i : Int) < IntKind.i64.wrap ((IntKind.u64.wrap c).tmod (4 : Int))) = false →
 (0 : Nat) + m4 a ≤ (cpTo (m4 a) cEm).len ∧
 (0 : Nat) + m4 b ≤ (cpTo (m4 b) rEm).len ∧
 (0 : Nat) + i ≤ (cpTo i pEm).len ∧
 SyS ((cpTo (m4 a) cEm).sub ((0 : Nat)) ((0 : Nat) + m4 a)) ((cpTo (m4 b) rEm).sub ((0 : Nat)) ((0 : Nat) + m4 b))
 ((cpTo i pEm).sub ((0 : Nat)) ((0 : Nat) + i)) ∧
 SyOK (cpC ((cpTo (m4 a) cEm).sub ((0 : Nat)) ((0 : Nat) + m4 a)))
 (cpU ((cpTo (m4 b) rEm).sub ((0 : Nat)) ((0 : Nat) + m4 b))) (cpP ((cpTo i pEm).sub ((0 : Nat)) ((0 : Nat) + i))) ∧
 (syB (cpC ((cpTo (m4 a) cEm).sub ((0 : Nat)) ((0 : Nat) + m4 a)))
 (cpU ((cpTo (m4 b) rEm).sub ((0 : Nat)) ((0 : Nat) + m4 b)))
 (cpP ((cpTo i pEm).sub ((0 : Nat)) ((0 : Nat) + i))) =
 true →
 syN (cpP ((cpTo i pEm).sub ((0 : Nat)) ((0 : Nat) + i))) = true →
 SyF (cpC ((cpTo (m4 a) cEm).sub ((0 : Nat)) ((0 : Nat) + m4 a)))
 (cpU ((cpTo (m4 b) rEm).sub ((0 : Nat)) ((0 : Nat) + m4 b)))
 (cpP ((cpTo i pEm).sub ((0 : Nat)) ((0 : Nat) + i)))) ∧
 (wdE (cpC ((cpTo (m4 a) cEm).sub ((0 : Nat)) ((0 : Nat) + m4 a)))
 (cpU ((cpTo (m4 b) rEm).sub ((0 : Nat)) ((0 : Nat) + m4 b)))
 (cpP ((cpTo i pEm).sub ((0 : Nat)) ((0 : Nat) + i))) ==
 (0 : Int) &&
 (↑(wdA (cpC ((cpTo (m4 a) cEm).sub ((0 : Nat)) ((0 : Nat) + m4 a)))
 (cpU ((cpTo (m4 b) rEm).sub ((0 : Nat)) ((0 : Nat) + m4 b)))
 (cpP ((cpTo i pEm).sub ((0 : Nat)) ((0 : Nat) + i)))).len :
 Int) ==
 IntKind.i64.wrap
 (IntKind.i64.wrap
 (IntKind.i64.wrap ((12 : Int) * (↑(m4 a) : Int)) + IntKind.i64.wrap ((8 : Int) * (↑(m4 b) : Int))) +
 IntKind.i64.wrap ((4 : Int) * (↑i : Int)))) =
 true)))) (by kernel_rfl) ?_
    have ma := m4_le a
    have mb := m4_le b
    have mc := m4_le c
    rw [m4_eq a, m4_eq b, m4_eq c]
    refine ⟨⟨0, Nat.zero_le _, by (repeat' apply And.intro) <;> rfl⟩, fun i hi => ⟨fun hc => ?_, fun hc => ?_⟩⟩
    · have hc := of_decide_eq_true hc
      have hi2 : i < m4 a := by omega
      have hw2 : IntKind.i64.wrap ((i : Int) + 1) = ((i + 1 : Nat) : Int) := by rw [IntWalk.i64_in _ (by omega)]; omega
      refine ⟨Nat.le_refl _, (cpTo_len _ _).symm, (show (i + 1) * 88 ≤ 140737488355328 by omega), Nat.le_refl _, i + 1, hi2, by omega, hw2, ?_⟩
      (repeat' apply And.intro) <;> first | exact (cpTo_succ i cEm).symm | rfl
    · have hc := of_decide_eq_false hc
      have hi3 : i = m4 a := by have : i ≤ m4 a := hi; omega
      subst hi3
      refine ⟨⟨0, Nat.zero_le _, by (repeat' apply And.intro) <;> rfl⟩, fun i hi => ⟨fun hc => ?_, fun hc => ?_⟩⟩
      · have hc := of_decide_eq_true hc
        have hi2 : i < m4 b := by omega
        have hw2 : IntKind.i64.wrap ((i : Int) + 1) = ((i + 1 : Nat) : Int) := by rw [IntWalk.i64_in _ (by omega)]; omega
        refine ⟨Nat.le_refl _, (cpTo_len _ _).symm, (show (i + 1) * 40 ≤ 140737488355328 by omega), Nat.le_refl _, i + 1, hi2, by omega, hw2, ?_⟩
        (repeat' apply And.intro) <;> first | exact (cpTo_succ i rEm).symm | rfl
      · have hc := of_decide_eq_false hc
        have hi3 : i = m4 b := by have : i ≤ m4 b := hi; omega
        subst hi3
        refine ⟨⟨0, Nat.zero_le _, by (repeat' apply And.intro) <;> rfl⟩, fun i hi => ⟨fun hc => ?_, fun hc => ?_⟩⟩
        · have hc := of_decide_eq_true hc
          have hi2 : i < m4 c := by omega
          have hw2 : IntKind.i64.wrap ((i : Int) + 1) = ((i + 1 : Nat) : Int) := by rw [IntWalk.i64_in _ (by omega)]; omega
          refine ⟨(cpTo_len _ _).symm, (show (i + 1) * 64 ≤ 140737488355328 by omega), Nat.le_refl _, i + 1, hi2, by omega, hw2, ?_⟩
          (repeat' apply And.intro) <;> first | exact (cpTo_succ i pEm).symm | rfl
        · have hc := of_decide_eq_false hc
          have hi3 : i = m4 c := by have : i ≤ m4 c := hi; omega
          subst hi3
          rw [cpTo_all, cpTo_all, cpTo_all, cpC_m, cpU_m, cpP_m]
          obtain ⟨w1, w2⟩ := wd_m ma mb mc
          refine ⟨by rw [cpTo_len]; omega, by rw [cpTo_len]; omega, by rw [cpTo_len]; omega, SyS_m ma mb mc, SyOK_m ma mb mc, fun _ _ => SyF_m ma mb mc, ?_⟩
          rw [w1, w2, IntWalk.i64_in (12 * (m4 a : Int)) (by omega), IntWalk.i64_in (8 * (m4 b : Int)) (by omega), IntWalk.i64_in (4 * (m4 c : Int)) (by omega), IntWalk.i64_in (12 * (m4 a : Int) + 8 * (m4 b : Int)) (by omega), IntWalk.i64_in _ (by omega)]
          simp
  · trivial
end Go.Proofs.YtehblppfclpojaaDoor.Sx.Z
