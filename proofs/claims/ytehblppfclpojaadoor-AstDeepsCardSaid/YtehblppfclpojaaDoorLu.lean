/-
  The laws' texts.
-/
import Derived.Test.YtehblppfclpojaaDoorLt
namespace Go.Proofs.YtehblppfclpojaaDoor.Sx.Z
open Go.RowKit
def e0 : ByteArray := ByteArray.empty
theorem lt_one {i : Nat} {P : Nat → Prop} (h0 : P 0) (h : i < 1) : P i := by
  obtain rfl : i = 0 := by omega
  exact h0
theorem cpE_nil : cpE (.l []) = .l [] := by rw [cpE_eq]; rfl
theorem cpB_nil : cpB (.l []) = .l [] := by rw [cpB_eq]; rfl
theorem kS_nil : kS (.l []) := (kS_iff _).2 ⟨Nat.zero_le _, fun i h => absurd h (Nat.not_lt_zero i)⟩
theorem bS_nil : bS (.l []) := (bS_iff _).2 ⟨Nat.zero_le _, fun i h => absurd h (Nat.not_lt_zero i)⟩
theorem sOK_nil : sOK (.l []) := (sOK_iff _).2 ⟨Nat.zero_le _, fun i h => absurd h (Nat.not_lt_zero i)⟩
theorem amOK_nil : amOK (.l []) := ⟨Nat.zero_le _, fun i h => absurd h (Nat.not_lt_zero i)⟩
theorem bF_nil : bF (.l []) := (bF_iff _).2 ⟨Nat.zero_le _, fun i h => absurd h (Nat.not_lt_zero i)⟩
theorem amF_nil : amF (.l []) := ⟨Nat.zero_le _, fun i h => absurd h (Nat.not_lt_zero i)⟩
theorem kF_nil (i : Nat) : kF (.l []) i := by rw [kF, dif_neg (show ¬ i < (D.l []).len from Nat.not_lt_zero i)]; trivial
theorem wsL_wsR (l : List ByteArray) : wsL (wsR l) (wsR l).len = l := by
  rw [wsR_len]
  unfold wsL
  apply List.ext_getElem
  · rw [List.length_map, List.length_range]
  · intro i h1 h2
    rw [List.getElem_map, List.getElem_range, wsR_el h2]
theorem cat_wsR {l : List ByteArray} (h : l.length ≤ 2001) : cat (.l []) l = wsR l := by
  show D.l ((([] : List (List D)) ++ l.map sR).take 2001) = _
  rw [List.nil_append, List.take_of_length_le (by rw [List.length_map]; exact h)]; rfl
def tE1 : D := .l [[.i 2, .i 0, .s ⟨#[97]⟩, .l []], [.i 1, .i 1, .s ByteArray.empty, .l []]]
def tE2 : D := .l [[.i 4, .i 0, .s ByteArray.empty, tE1], [.i 1, .i 2, .s ByteArray.empty, .l []]]
def tB : D := .l [[.i 1, .s ⟨#[120]⟩, .s ByteArray.empty, .i 6, .i 0, .s ByteArray.empty, tE2, .i 0, .i 0, .i 0, .s ByteArray.empty, .l [], .i 0, .i 0, .s ByteArray.empty, .l [], .l [], .l [], .l []]]
def tP : D := .l [[.s ⟨#[112]⟩, .l [], tB]]
theorem cpE_1 : cpE tE1 = tE1 := by
  rw [cpE_eq]
  show D.l [[.i 2, .i 0, .s ⟨#[97]⟩, cpE (.l [])], [.i 1, .i 1, .s ByteArray.empty, cpE (.l [])]] = _
  rw [cpE_nil]; rfl
theorem cpE_2 : cpE tE2 = tE2 := by
  rw [cpE_eq]
  show D.l [[.i 4, .i 0, .s ByteArray.empty, cpE tE1], [.i 1, .i 2, .s ByteArray.empty, cpE (.l [])]] = _
  rw [cpE_nil, cpE_1]; rfl
theorem cpB_t : cpB tB = tB := by
  rw [cpB_eq]
  show D.l [[.i 1, .s ⟨#[120]⟩, .s ByteArray.empty, .i 6, .i 0, .s ByteArray.empty, cpE tE2, .i 0, .i 0, .i 0, .s ByteArray.empty, cpE (.l []), .i 0, .i 0, .s ByteArray.empty, cpE (.l []), cpB (.l []), cpB (.l []), .l []]] = _
  rw [cpE_nil, cpE_2, cpB_nil]; rfl
theorem cpP_t : cpP tP = tP := by
  show D.l [[.s ⟨#[112]⟩, .l [], cpB tB]] = _
  rw [cpB_t]; rfl
theorem kS_1 : kS tE1 := (kS_iff _).2 ⟨by decide, fun i h => by
  have : i < 2 := h
  obtain rfl | rfl : i = 0 ∨ i = 1 := by omega
  · exact kS_nil
  · exact kS_nil⟩
theorem kS_2 : kS tE2 := (kS_iff _).2 ⟨by decide, fun i h => by
  have : i < 2 := h
  obtain rfl | rfl : i = 0 ∨ i = 1 := by omega
  · exact kS_1
  · exact kS_nil⟩
theorem bS_t : bS tB := (bS_iff _).2 ⟨by decide, fun i h => lt_one (P := fun i => kS (tB.el i 6) ∧ kS (tB.el i 11) ∧ kS (tB.el i 15) ∧ bS (tB.el i 16) ∧ bS (tB.el i 17) ∧ (tB.el i 18).len ≤ 1000000 ∧ ∀ j, j < (tB.el i 18).len → bS ((tB.el i 18).el j 2)) ⟨kS_2, kS_nil, kS_nil, bS_nil, bS_nil, Nat.zero_le _, fun j hj => absurd hj (Nat.not_lt_zero j)⟩ h⟩
theorem SyS_t : SyS (.l []) (.l []) tP := ⟨Nat.zero_le _, fun i h => absurd h (Nat.not_lt_zero i), Nat.zero_le _, fun i h => absurd h (Nat.not_lt_zero i), by decide, fun i h => lt_one (P := fun i => (tP.el i 1).len ≤ 1000000) (Nat.zero_le _) h, fun i h => lt_one (P := fun i => bS (tP.el i 2)) bS_t h⟩
theorem sOK_t : sOK tB := (sOK_iff _).2 ⟨by decide, fun i h => lt_one (P := fun i => sOK (tB.el i 16) ∧ sOK (tB.el i 17) ∧ amOK (tB.el i 18)) ⟨sOK_nil, sOK_nil, amOK_nil⟩ h⟩
theorem SyOK_t : SyOK (.l []) (.l []) tP := ⟨Nat.zero_le _, fun i h => absurd h (Nat.not_lt_zero i), Nat.zero_le _, fun i h => absurd h (Nat.not_lt_zero i), by decide, fun i h => lt_one (P := fun i => (tP.el i 1).len ≤ 1000000000000) (Nat.zero_le _) h, fun i h => lt_one (P := fun i => sOK (tP.el i 2)) sOK_t h⟩
theorem xF_1a : kF tE1 0 := by
  rw [kF_eq (by decide)]
  show xF 2 0 ⟨#[97]⟩ (.l [])
  exact ⟨fun h => absurd h (by decide), fun _ => (by decide), fun h => absurd h (by decide), fun h => absurd h (by decide)⟩
theorem xF_1b : kF tE1 1 := by
  rw [kF_eq (by decide)]
  show xF 1 1 ByteArray.empty (.l [])
  exact ⟨fun _ => (by decide), fun h => absurd h (by decide), fun h => absurd h (by decide), fun h => absurd h (by decide)⟩
theorem xF_2a : kF tE2 0 := by
  rw [kF_eq (by decide)]
  show xF 4 0 ByteArray.empty tE1
  exact ⟨fun h => absurd h (by decide), fun h => absurd h (by decide), fun h => absurd h (by decide), fun _ => ⟨rfl, xF_1a, xF_1b⟩⟩
theorem xF_2b : kF tE2 1 := by
  rw [kF_eq (by decide)]
  show xF 1 2 ByteArray.empty (.l [])
  exact ⟨fun _ => (by decide), fun h => absurd h (by decide), fun h => absurd h (by decide), fun h => absurd h (by decide)⟩
theorem xF_t : xF 6 0 ByteArray.empty tE2 := ⟨fun h => absurd h (by decide), fun h => absurd h (by decide), fun h => absurd h (by decide), fun _ => ⟨rfl, xF_2a, xF_2b⟩⟩
theorem bF_t : bF tB := (bF_iff _).2 ⟨by decide, fun i h => lt_one (P := stFE tB) (show stFF 1 ⟨#[120]⟩ ByteArray.empty (xF 6 0 ByteArray.empty tE2) _ _ _ _ from ⟨fun _ => ⟨(by unfold sz; decide), xF_t⟩, fun h => absurd h (by decide), fun h => absurd h (by decide), fun h => absurd h (by decide), fun h => absurd h (by decide), fun h => absurd h (by decide), fun h => absurd h (by decide)⟩) h⟩
theorem SyF_t : SyF (.l []) (.l []) tP := ⟨fun i h => absurd h (Nat.not_lt_zero i), fun i h => absurd h (Nat.not_lt_zero i), fun i h => lt_one (P := fun i => prF (tP.el i 0).toS (tP.el i 1) (tP.el i 2)) ⟨(by unfold sz; decide), Nat.zero_le _, fun i h => absurd h (Nat.not_lt_zero i), bF_t⟩ h⟩
theorem nm_x : nmB ⟨#[120]⟩ = true := by decide +kernel
theorem nm_a : nmB ⟨#[97]⟩ = true := by decide +kernel
theorem nm_p : nmB ⟨#[112]⟩ = true := by decide +kernel
theorem aE_1a : aE tE1 0 = true := by
  rw [aE_eq (by decide)]
  show nmB ⟨#[97]⟩ = true
  exact nm_a
theorem aE_1b : aE tE1 1 = true := by
  rw [aE_eq (by decide)]
  show nuB 1 = true
  decide
theorem aE_2a : aE tE2 0 = true := by
  rw [aE_eq (by decide)]
  show (decide _ && aE tE1 0 && aE tE1 1) = true
  rw [aE_1a, aE_1b]; rfl
theorem aE_2b : aE tE2 1 = true := by
  rw [aE_eq (by decide)]
  show nuB 2 = true
  decide
theorem aX_t : aX 6 0 ByteArray.empty tE2 = true := by
  rw [aX_bin (by decide), aE_2a, aE_2b]; rfl
theorem bA_t : bA tB = true := by
  rw [bA_eq]
  show ((nmB ⟨#[120]⟩ && aX 6 0 ByteArray.empty tE2) && true) = true
  rw [nm_x, aX_t]; rfl
theorem syB_t : syB (.l []) (.l []) tP = true := by
  show (true && (true && (((nmB ⟨#[112]⟩ && true) && bA tB) && true))) = true
  rw [nm_p, bA_t]; rfl
theorem kN_1 (i : Nat) (h : i < 2) (d : Int) (hd : d ≤ 24) : kN tE1 i d = true := by
  rw [kN_eq h]
  obtain rfl | rfl : i = 0 ∨ i = 1 := by omega
  · show xN 2 (.l []) d = true
    unfold xN xNb
    rw [if_neg (by omega), if_neg (by decide), if_neg (by decide)]
  · show xN 1 (.l []) d = true
    unfold xN xNb
    rw [if_neg (by omega), if_neg (by decide), if_neg (by decide)]
theorem xN_t : xN 6 tE2 0 = true := by
  show (kN tE2 0 1 && kN tE2 1 0) = true
  rw [kN_eq (by decide), kN_eq (by decide)]
  show ((kN tE1 0 1 && kN tE1 1 1) && true) = true
  rw [kN_1 0 (by decide) _ (by decide), kN_1 1 (by decide) _ (by decide)]; rfl
theorem stNE_t : stNE tB 0 0 = true := by
  unfold stNE stN stNF
  rw [if_pos (show (tB.el 0 0).toI = 1 ∨ (tB.el 0 0).toI = 4 from Or.inl rfl)]
  exact xN_t
theorem bN_t : bN tB 0 = true := by
  rw [bN_eq]
  exact allB_yes fun i h => lt_one (P := fun i => stNE tB 0 i = true) stNE_t h
theorem syN_t : syN tP = true := allB_yes fun _i h => lt_one (P := fun i => prNE tP i = true) bN_t h
theorem it1 : itW 1 = ⟨#[49]⟩ := by decide +kernel
theorem it2 : itW 2 = ⟨#[50]⟩ := by decide +kernel
theorem xW_t : xW 6 0 ByteArray.empty tE2 = [⟨#[40]⟩, ⟨#[97]⟩, ⟨#[43]⟩, ⟨#[49]⟩, ⟨#[41]⟩, ⟨#[42]⟩, ⟨#[50]⟩] := by
  show (⟨#[40]⟩ :: (kW tE2 0 ++ [⟨#[41]⟩])) ++ (⟨#[42]⟩ :: kW tE2 1) = _
  rw [kW_eq (by decide), kW_eq (by decide)]
  show (⟨#[40]⟩ :: ((kW tE1 0 ++ (⟨#[43]⟩ :: kW tE1 1)) ++ [⟨#[41]⟩])) ++ (⟨#[42]⟩ :: [itW 2]) = _
  rw [kW_eq (by decide), kW_eq (by decide)]
  show (⟨#[40]⟩ :: (([⟨#[97]⟩] ++ (⟨#[43]⟩ :: [itW 1])) ++ [⟨#[41]⟩])) ++ (⟨#[42]⟩ :: [itW 2]) = _
  rw [it1, it2]; rfl
def tW : List ByteArray := [⟨#[112, 114, 111, 99]⟩, ⟨#[112]⟩, ⟨#[123]⟩, ⟨#[120]⟩, ⟨#[61]⟩, ⟨#[40]⟩, ⟨#[97]⟩, ⟨#[43]⟩, ⟨#[49]⟩, ⟨#[41]⟩, ⟨#[42]⟩, ⟨#[50]⟩, ⟨#[59]⟩, ⟨#[125]⟩]
theorem syW_t : syW (.l []) (.l []) tP = tW := by
  show [⟨#[112, 114, 111, 99]⟩, ⟨#[112]⟩, ⟨#[123]⟩] ++ ([] ++ (bW tB ++ [⟨#[125]⟩])) ++ [] = _
  rw [bW_eq]
  show [⟨#[112, 114, 111, 99]⟩, ⟨#[112]⟩, ⟨#[123]⟩] ++ ([] ++ (((⟨#[120]⟩ :: ⟨#[61]⟩ :: (xW 6 0 ByteArray.empty tE2 ++ [⟨#[59]⟩])) ++ []) ++ [⟨#[125]⟩])) ++ [] = _
  rw [xW_t]; rfl
theorem wdD_t : wdD (.l []) (.l []) tP = wsR tW := by
  unfold wdD
  rw [syW_t, cat_wsR (by decide)]
theorem wdE_t : wdE (.l []) (.l []) tP = 0 := wd0 syB_t syN_t (by rw [wdD_t, wsR_len]; decide)
theorem wdA_t : wdA (.l []) (.l []) tP = wsR tW := (if_pos wdE_t).trans wdD_t
theorem txS_t : (txS (.l []) (.l []) tP).toList = (ByteArray.mk #[112, 114, 111, 99, 32, 112, 32, 123, 32, 120, 32, 61, 32, 40, 32, 97, 32, 43, 32, 49, 32, 41, 32, 42, 32, 50, 32, 59, 32, 125, 32]).toList := by
  unfold txS
  rw [if_pos wdE_t, wdA_t, wsL_wsR]
  decide +kernel
theorem tW_sz : ∀ a ∈ tW, a.size ≤ 1000000000 := by decide +kernel
theorem wa_t (i : Nat) (h : i < (wdA (cpC (.l [])) (cpU (.l [])) (cpP tP)).len) : ((wdA (cpC (.l [])) (cpU (.l [])) (cpP tP)).el i 0).toS.size ≤ 1000000000 := by
  rw [cpP_t] at h ⊢
  have h : i < (wdA (.l []) (.l []) tP).len := h
  show ((wdA (.l []) (.l []) tP).el i 0).toS.size ≤ 1000000000
  rw [wdA_t] at h ⊢
  rw [wsR_len] at h
  rw [wsR_el h]
  exact tW_sz _ (List.getElem_mem h)
theorem we_t : wdE (cpC (.l [])) (cpU (.l [])) (cpP tP) = 0 := by
  rw [cpP_t]
  exact wdE_t
theorem wt_t : (txS (cpC (.l [])) (cpU (.l [])) (cpP tP)).toList = (ByteArray.mk #[112, 114, 111, 99, 32, 112, 32, 123, 32, 120, 32, 61, 32, 40, 32, 97, 32, 43, 32, 49, 32, 41, 32, 42, 32, 50, 32, 59, 32, 125, 32]).toList := by
  rw [cpP_t]
  exact txS_t
theorem fin_t {x : Int} {a b : List UInt8} (h : x = 0) (h2 : a = b) : (x == 0 && (a == b)) = true := by rw [h, h2]; simp
noncomputable def txtsS : FSpec := fun ds _ => match ds with
  | [] => some { val := .one (.sc (.bool (.lit true))), vc := [] }
  | _ => none
noncomputable def txtsC : Con := con [] txtsS
theorem txts_ok : ConOK Tryd.prog 10 txtsC := by
  refine fn_ob tt_ok mixed Tryd.func10 rfl (fun _ _ => by kernel_rfl) (A := fun ds => ⟨fun _ => Cons.of [(9, ycpC), (8, txC)], fun _ => none, fun _ => none⟩) (fun _ _ => (cons_cons ycp_ok (cons_cons tx_ok cons_nil))) (by kernel_rfl) ?_
  intro ds fr
  unfold txtsS
  split
  · skip
    refine kmp (q := (0 : Nat) + (2 : Nat) ≤
 (D.l [[D.i (2 : Int), D.i (0 : Int), D.s (ByteArray.mk #[(97 : UInt8)]), D.l []], [D.i (1 : Int), D.i (1 : Int), D.s ByteArray.empty, D.l []]]).len ∧
 (0 : Nat) + (2 : Nat) ≤
 (D.l
 [[D.i (4 : Int), D.i (0 : Int), D.s ByteArray.empty,
 (D.l [[D.i (2 : Int), D.i (0 : Int), D.s (ByteArray.mk #[(97 : UInt8)]), D.l []], [D.i (1 : Int), D.i (1 : Int), D.s ByteArray.empty, D.l []]]).sub
 ((0 : Nat)) ((0 : Nat) + (2 : Nat))],
 [D.i (1 : Int), D.i (2 : Int), D.s ByteArray.empty, D.l []]]).len ∧
 (0 : Nat) + (1 : Nat) ≤
 (D.l
 [[D.i (1 : Int), D.s (ByteArray.mk #[(120 : UInt8)]), D.s ByteArray.empty, D.i (6 : Int), D.i (0 : Int), D.s ByteArray.empty,
 (D.l
 [[D.i (4 : Int), D.i (0 : Int), D.s ByteArray.empty,
 (D.l
 [[D.i (2 : Int), D.i (0 : Int), D.s (ByteArray.mk #[(97 : UInt8)]), D.l []],
 [D.i (1 : Int), D.i (1 : Int), D.s ByteArray.empty, D.l []]]).sub
 ((0 : Nat)) ((0 : Nat) + (2 : Nat))],
 [D.i (1 : Int), D.i (2 : Int), D.s ByteArray.empty, D.l []]]).sub
 ((0 : Nat)) ((0 : Nat) + (2 : Nat)),
 D.i (0 : Int), D.i (0 : Int), D.i (0 : Int), D.s ByteArray.empty, D.l [], D.i (0 : Int), D.i (0 : Int), D.s ByteArray.empty, D.l [], D.l [],
 D.l [], D.l []]]).len ∧
 (0 : Nat) + (1 : Nat) ≤
 (D.l
 [[D.s (ByteArray.mk #[(112 : UInt8)]), D.l [],
 (D.l
 [[D.i (1 : Int), D.s (ByteArray.mk #[(120 : UInt8)]), D.s ByteArray.empty, D.i (6 : Int), D.i (0 : Int), D.s ByteArray.empty,
 (D.l
 [[D.i (4 : Int), D.i (0 : Int), D.s ByteArray.empty,
 (D.l
 [[D.i (2 : Int), D.i (0 : Int), D.s (ByteArray.mk #[(97 : UInt8)]), D.l []],
 [D.i (1 : Int), D.i (1 : Int), D.s ByteArray.empty, D.l []]]).sub
 ((0 : Nat)) ((0 : Nat) + (2 : Nat))],
 [D.i (1 : Int), D.i (2 : Int), D.s ByteArray.empty, D.l []]]).sub
 ((0 : Nat)) ((0 : Nat) + (2 : Nat)),
 D.i (0 : Int), D.i (0 : Int), D.i (0 : Int), D.s ByteArray.empty, D.l [], D.i (0 : Int), D.i (0 : Int), D.s ByteArray.empty, D.l [],
 D.l [], D.l [], D.l []]]).sub
 (0 : Nat) ((0 : Nat) + (1 : Nat))]]).len ∧
 SyS (D.l []) (D.l [])
 ((D.l
 [[D.s (ByteArray.mk #[(112 : UInt8)]), D.l [],
 (D.l
 [[D.i (1 : Int), D.s (ByteArray.mk #[(120 : UInt8)]), D.s ByteArray.empty, D.i (6 : Int), D.i (0 : Int), D.s ByteArray.empty,
 (D.l
 [[D.i (4 : Int), D.i (0 : Int), D.s ByteArray.empty,
 (D.l
 [[D.i (2 : Int), D.i (0 : Int), D.s (ByteArray.mk #[(97 : UInt8)]), D.l []],
 [D.i (1 : Int), D.i (1 : Int), D.s ByteArray.empty, D.l []]]).sub
 ((0 : Nat)) ((0 : Nat) + (2 : Nat))],
 [D.i (1 : Int), D.i (2 : Int), D.s ByteArray.empty, D.l []]]).sub
 ((0 : Nat)) ((0 : Nat) + (2 : Nat)),
 D.i (0 : Int), D.i (0 : Int), D.i (0 : Int), D.s ByteArray.empty, D.l [], D.i (0 : Int), D.i (0 : Int), D.s ByteArray.empty,
 D.l [], D.l [], D.l [], D.l []]]).sub
 (0 : Nat) ((0 : Nat) + (1 : Nat))]]).sub
 (0 : Nat) ((0 : Nat) + (1 : Nat))) ∧
 SyOK (cpC (D.l [])) (cpU (D.l []))
 (cpP
 ((D.l
 [[D.s (ByteArray.mk #[(112 : UInt8)]), D.l [],
 (D.l
 [[D.i (1 : Int), D.s (ByteArray.mk #[(120 : UInt8)]), D.s ByteArray.empty, D.i (6 : Int), D.i (0 : Int), D.s ByteArray.empty,
 (D.l
 [[D.i (4 : Int), D.i (0 : Int), D.s ByteArray.empty,
 (D.l
 [[D.i (2 : Int), D.i (0 : Int), D.s (ByteArray.mk #[(97 : UInt8)]), D.l []],
 [D.i (1 : Int), D.i (1 : Int), D.s ByteArray.empty, D.l []]]).sub
 ((0 : Nat)) ((0 : Nat) + (2 : Nat))],
 [D.i (1 : Int), D.i (2 : Int), D.s ByteArray.empty, D.l []]]).sub
 ((0 : Nat)) ((0 : Nat) + (2 : Nat)),
 D.i (0 : Int), D.i (0 : Int), D.i (0 : Int), D.s ByteArray.empty, D.l [], D.i (0 : Int), D.i (0 : Int), D.s ByteArray.empty,
 D.l [], D.l [], D.l [], D.l []]]).sub
 (0 : Nat) ((0 : Nat) + (1 : Nat))]]).sub
 (0 : Nat) ((0 : Nat) + (1 : Nat)))) ∧
 (syB (cpC (D.l [])) (cpU (D.l []))
 (cpP
 ((D.l
 [[D.s (ByteArray.mk #[(112 : UInt8)]), D.l [],
 (D.l
 [[D.i (1 : Int), D.s (ByteArray.mk #[(120 : UInt8)]), D.s ByteArray.empty, D.i (6 : Int), D.i (0 : Int), D.s ByteArray.empty,
 (D.l
 [[D.i (4 : Int), D.i (0 : Int), D.s ByteArray.empty,
 (D.l
 [[D.i (2 : Int), D.i (0 : Int), D.s (ByteArray.mk #[(97 : UInt8)]), D.l []],
 [D.i (1 : Int), D.i (1 : Int), D.s ByteArray.empty, D.l []]]).sub
 ((0 : Nat)) ((0 : Nat) + (2 : Nat))],
 [D.i (1 : Int), D.i (2 : Int), D.s ByteArray.empty, D.l []]]).sub
 ((0 : Nat)) ((0 : Nat) + (2 : Nat)),
 D.i (0 : Int), D.i (0 : Int), D.i (0 : Int), D.s ByteArray.empty, D.l [], D.i (0 : Int), D.i (0 : Int),
 D.s ByteArray.empty, D.l [], D.l [], D.l [], D.l []]]).sub
 (0 : Nat) ((0 : Nat) + (1 : Nat))]]).sub
 (0 : Nat) ((0 : Nat) + (1 : Nat)))) =
 true →
 syN
 (cpP
 ((D.l
 [[D.s (ByteArray.mk #[(112 : UInt8)]), D.l [],
 (D.l
 [[D.i (1 : Int), D.s (ByteArray.mk #[(120 : UInt8)]), D.s ByteArray.empty, D.i (6 : Int), D.i (0 : Int),
 D.s ByteArray.empty,
 (D.l
 [[D.i (4 : Int), D.i (0 : Int), D.s ByteArray.empty,
 (D.l
 [[D.i (2 : Int), D.i (0 : Int), D.s (ByteArray.mk #[(97 : UInt8)]), D.l []],
 [D.i (1 : Int), D.i (1 : Int), D.s ByteArray.empty, D.l []]]).sub
 ((0 : Nat)) ((0 : Nat) + (2 : Nat))],
 [D.i (1 : Int), D.i (2 : Int), D.s ByteArray.empty, D.l []]]).sub
 ((0 : Nat)) ((0 : Nat) + (2 : Nat)),
 D.i (0 : Int), D.i (0 : Int), D.i (0 : Int), D.s ByteArray.empty, D.l [], D.i (0 : Int), D.i (0 : Int),
 D.s ByteArray.empty, D.l [], D.l [], D.l [], D.l []]]).sub
 (0 : Nat) ((0 : Nat) + (1 : Nat))]]).sub
 (0 : Nat) ((0 : Nat) + (1 : Nat)))) =
 true →
 SyF (cpC (D.l [])) (cpU (D.l []))
 (cpP
 ((D.l
 [[D.s (ByteArray.mk #[(112 : UInt8)]), D.l [],
 (D.l
 [[D.i (1 : Int), D.s (ByteArray.mk #[(120 : UInt8)]), D.s ByteArray.empty, D.i (6 : Int), D.i (0 : Int), D.s ByteArray.empty,
 (D.l
 [[D.i (4 : Int), D.i (0 : Int), D.s ByteArray.empty,
 (D.l
 [[D.i (2 : Int), D.i (0 : Int), D.s (ByteArray.mk #[(97 : UInt8)]), D.l []],
 [D.i (1 : Int), D.i (1 : Int), D.s ByteArray.empty, D.l []]]).sub
 ((0 : Nat)) ((0 : Nat) + (2 : Nat))],
 [D.i (1 : Int), D.i (2 : Int), D.s ByteArray.empty, D.l []]]).sub
 ((0 : Nat)) ((0 : Nat) + (2 : Nat)),
 D.i (0 : Int), D.i (0 : Int), D.i (0 : Int), D.s ByteArray.empty, D.l [], D.i (0 : Int), D.i (0 : Int),
 D.s ByteArray.empty, D.l [], D.l [], D.l [], D.l []]]).sub
 (0 : Nat) ((0 : Nat) + (1 : Nat))]]).sub
 (0 : Nat) ((0 : Nat) + (1 : Nat))))) ∧
 (∀ (i : Nat),
 i <
 (wdA (cpC (D.l [])) (cpU (D.l []))
 (cpP
 ((D.l
 [[D.s (ByteArray.mk #[(112 : UInt8)]), D.l [],
 (D.l
 [[D.i (1 : Int), D.s (ByteArray.mk #[(120 : UInt8)]), D.s ByteArray.empty, D.i (6 : Int), D.i (0 : Int),
 D.s ByteArray.empty,
 (D.l
 [[D.i (4 : Int), D.i (0 : Int), D.s ByteArray.empty,
 (D.l
 [[D.i (2 : Int), D.i (0 : Int), D.s (ByteArray.mk #[(97 : UInt8)]), D.l []],
 [D.i (1 : Int), D.i (1 : Int), D.s ByteArray.empty, D.l []]]).sub
 ((0 : Nat)) ((0 : Nat) + (2 : Nat))],
 [D.i (1 : Int), D.i (2 : Int), D.s ByteArray.empty, D.l []]]).sub
 ((0 : Nat)) ((0 : Nat) + (2 : Nat)),
 D.i (0 : Int), D.i (0 : Int), D.i (0 : Int), D.s ByteArray.empty, D.l [], D.i (0 : Int), D.i (0 : Int),
 D.s ByteArray.empty, D.l [], D.l [], D.l [], D.l []]]).sub
 (0 : Nat) ((0 : Nat) + (1 : Nat))]]).sub
 (0 : Nat) ((0 : Nat) + (1 : Nat))))).len →
 ((wdA (cpC (D.l [])) (cpU (D.l []))
 (cpP
 ((D.l
 [[D.s (ByteArray.mk #[(112 : UInt8)]), D.l [],
 (D.l
 [[D.i (1 : Int), D.s (ByteArray.mk #[(120 : UInt8)]), D.s ByteArray.empty, D.i (6 : Int), D.i (0 : Int),
 D.s ByteArray.empty,
 (D.l
 [[D.i (4 : Int), D.i (0 : Int), D.s ByteArray.empty,
 (D.l
 [[D.i (2 : Int), D.i (0 : Int), D.s (ByteArray.mk #[(97 : UInt8)]), D.l []],
 [D.i (1 : Int), D.i (1 : Int), D.s ByteArray.empty, D.l []]]).sub
 ((0 : Nat)) ((0 : Nat) + (2 : Nat))],
 [D.i (1 : Int), D.i (2 : Int), D.s ByteArray.empty, D.l []]]).sub
 ((0 : Nat)) ((0 : Nat) + (2 : Nat)),
 D.i (0 : Int), D.i (0 : Int), D.i (0 : Int), D.s ByteArray.empty, D.l [], D.i (0 : Int), D.i (0 : Int),
 D.s ByteArray.empty, D.l [], D.l [], D.l [], D.l []]]).sub
 (0 : Nat) ((0 : Nat) + (1 : Nat))]]).sub
 (0 : Nat) ((0 : Nat) + (1 : Nat))))).el
 i (0 : Nat)).toS.size ≤
 (1000000000 : Nat)) ∧
 (wdE (cpC (D.l [])) (cpU (D.l []))
 (cpP
 ((D.l
 [[D.s (ByteArray.mk #[(112 : UInt8)]), D.l [],
 (D.l
 [[D.i (1 : Int), D.s (ByteArray.mk #[(120 : UInt8)]), D.s ByteArray.empty, D.i (6 : Int), D.i (0 : Int),
 D.s ByteArray.empty,
 (D.l
 [[D.i (4 : Int), D.i (0 : Int), D.s ByteArray.empty,
 (D.l
 [[D.i (2 : Int), D.i (0 : Int), D.s (ByteArray.mk #[(97 : UInt8)]), D.l []],
 [D.i (1 : Int), D.i (1 : Int), D.s ByteArray.empty, D.l []]]).sub
 ((0 : Nat)) ((0 : Nat) + (2 : Nat))],
 [D.i (1 : Int), D.i (2 : Int), D.s ByteArray.empty, D.l []]]).sub
 ((0 : Nat)) ((0 : Nat) + (2 : Nat)),
 D.i (0 : Int), D.i (0 : Int), D.i (0 : Int), D.s ByteArray.empty, D.l [], D.i (0 : Int), D.i (0 : Int),
 D.s ByteArray.empty, D.l [], D.l [], D.l [], D.l []]]).sub
 (0 : Nat) ((0 : Nat) + (1 : Nat))]]).sub
 (0 : Nat) ((0 : Nat) + (1 : Nat)))) ==
 (0 : Int) &&
 (txS (cpC (D.l [])) (cpU (D.l []))
 (cpP
 ((D.l
 [[D.s (ByteArray.mk #[(112 : UInt8)]), D.l [],
 (D.l
 [[D.i (1 : Int), D.s (ByteArray.mk #[(120 : UInt8)]), D.s ByteArray.empty, D.i (6 : Int), D.i (0 : Int),
 D.s ByteArray.empty,
 (D.l
 [[D.i (4 : Int), D.i (0 : Int), D.s ByteArray.empty,
 (D.l
 [[D.i (2 : Int), D.i (0 : Int), D.s (ByteArray.mk #[(97 : UInt8)]), D.l []],
 [D.i (1 : Int), D.i (1 : Int), D.s ByteArray.empty, D.l []]]).sub
 ((0 : Nat)) ((0 : Nat) + (2 : Nat))],
 [D.i (1 : Int), D.i (2 : Int), D.s ByteArray.empty, D.l []]]).sub
 ((0 : Nat)) ((0 : Nat) + (2 : Nat)),
 D.i (0 : Int), D.i (0 : Int), D.i (0 : Int), D.s ByteArray.empty, D.l [], D.i (0 : Int), D.i (0 : Int),
 D.s ByteArray.empty, D.l [], D.l [], D.l [], D.l []]]).sub
 (0 : Nat) ((0 : Nat) + (1 : Nat))]]).sub
 (0 : Nat) ((0 : Nat) + (1 : Nat))))).toList ==
 (ByteArray.mk #[(112 : UInt8), (114 : UInt8), (111 : UInt8), (99 : UInt8), (32 : UInt8), (112 : UInt8), (32 : UInt8), (123 : UInt8), (32 : UInt8),
 (120 : UInt8), (32 : UInt8), (61 : UInt8), (32 : UInt8), (40 : UInt8), (32 : UInt8), (97 : UInt8), (32 : UInt8), (43 : UInt8),
 (32 : UInt8), (49 : UInt8), (32 : UInt8), (41 : UInt8), (32 : UInt8), (42 : UInt8), (32 : UInt8), (50 : UInt8), (32 : UInt8),
 (59 : UInt8), (32 : UInt8), (125 : UInt8), (32 : UInt8)]).toList) =
 true) (by kernel_rfl) ?_
    have hcp : cpP tP = tP := cpP_t
    refine ⟨by decide, by decide, by decide, by decide, SyS_t, ?_, fun _ _ => ?_, wa_t, fin_t we_t wt_t⟩
    · show SyOK (.l []) (.l []) (cpP tP)
      rw [hcp]; exact SyOK_t
    · show SyF (.l []) (.l []) (cpP tP)
      rw [hcp]; exact SyF_t
  · trivial
end Go.Proofs.YtehblppfclpojaaDoor.Sx.Z
