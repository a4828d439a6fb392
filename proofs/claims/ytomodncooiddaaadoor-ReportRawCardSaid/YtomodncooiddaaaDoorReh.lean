/-
  A whole result's words by the reference.
-/
import Derived.Test.YtomodncooiddaaaDoorRef
namespace Go.Proofs.YtomodncooiddaaaDoor.Sx.Z
open Go.RowKit
theorem mkB_ap (A : List UInt8) (s : ByteArray) : mkB A ++ s = mkB (A ++ bl s) := mkB_app A (bl s)
theorem mkB_bl (s : ByteArray) : mkB (bl s) = s := rfl
theorem mkB_size (A : List UInt8) : (mkB A).size = A.length := rfl
theorem join_snoc (l : List (List UInt8)) (x sep : List UInt8) : Lib.join (l ++ [x]) sep = if l = [] then x else Lib.join l sep ++ (sep ++ x) := by
  cases l with
  | nil => simp [Lib.join_one]
  | cons y r =>
    rw [if_neg (by simp), List.cons_append, Lib.join_cons, Lib.join_cons]
    unfold Lib.joinTail
    rw [List.map_append, List.flatten_append, List.append_assoc]
    simp
def vaB (ds : D) : Nat → List UInt8
  | 0 => []
  | v + 1 => (vaB ds v ++ if v > 0 then bl csp else []) ++ bl (itR ds v)
theorem vaB_join (ds : D) (v : Nat) : Lib.join ((List.range v).map fun i => (itR ds i).data.toList) csp.data.toList = vaB ds v := by
  induction v with
  | zero => rfl
  | succ v ih =>
    rw [List.range_succ, List.map_append, List.map_cons, List.map_nil, join_snoc, ih, vaB]
    by_cases h : v = 0
    · subst h; rfl
    · rw [if_neg (by simp [h]), if_pos (by omega), List.append_assoc]; rfl
def ntB (ds : D) : List UInt8 := if ds.len = 0 then bl ⟨#[110, 111, 116, 104, 105, 110, 103]⟩ else []
def hnB (n : Nat) : List UInt8 := (bl noB ++ bl (itW (n : Int))) ++ bl coB
def ndB (a : D) (n v : Nat) : List UInt8 := (hnB n ++ ntB (a.el n 1)) ++ vaB (a.el n 1) v
def hcB (le : D) (c : Nat) : List UInt8 := (((bl chnB ++ bl (itW (c : Int))) ++ bl coB) ++ bl (itT (le.el c 0).toI (le.el c 1).toI)) ++ bl msB
def tcB (vs : D) (t : Nat) : List UInt8 := (tgL vs t).flatMap fun t => bl (tgT vs t)
theorem mxx {a : Nat} (h : a ≤ 1000000000000) : ((a : Nat) : Int) ≤ IntKind.i64.max := by
  show ((a : Nat) : Int) ≤ 9223372036854775807
  omega
def nlB : ByteArray := ⟨#[10]⟩
def neB : ByteArray := ⟨#[110, 101, 118, 101, 114, 10]⟩
def nthB : ByteArray := ⟨#[110, 111, 116, 104, 105, 110, 103]⟩
def naB : ByteArray := ⟨#[110, 111, 32, 97, 108, 97, 114, 109, 10]⟩
def anB : ByteArray := ⟨#[32, 97, 108, 97, 114, 109, 115, 10]⟩
theorem lnS_2 (a b : ByteArray) : lnS [a, b] = bl a ++ (bl b ++ [10]) := by
  unfold lnS catB catB catB
  rw [List.append_nil, List.append_assoc]; rfl
theorem lnS_1 (a : ByteArray) : lnS [a] = bl a ++ [10] := by
  unfold lnS catB catB
  rw [List.append_nil]; rfl
theorem lnS_4 (a b c d : ByteArray) : lnS [a, b, c, d] = bl a ++ (bl b ++ (bl c ++ (bl d ++ [10]))) := by
  unfold lnS catB catB catB catB catB
  rw [List.append_nil, List.append_assoc, List.append_assoc, List.append_assoc]; rfl
theorem bl_nl : bl nlB = [10] := rfl
theorem E_0 (st : Int) (ta : D) : Value.string ((spB ++ itW st) ++ nlB) = Value.string (mkB (t1B st ta 0)) := by
  refine congrArg Value.string ?_
  show (mkB (bl spB) ++ itW st) ++ nlB = _
  simp only [mkB_ap]
  refine congrArg mkB ?_
  show _ = t0B st ++ []
  rw [List.append_nil, t0B, lnS_2, bl_nl, List.append_assoc]
theorem E_hd (st : Int) (ta : D) (p : Nat) : ((t1B st ta p ++ bl prB) ++ bl (itW (p : Int))) ++ bl nlB = t2B st ta p 0 := by
  rw [← t2B_zero, hdB, lnS_2, bl_nl, List.append_assoc, List.append_assoc]
theorem E_never {st : Int} {ta : D} {p n : Nat} (h : ((ta.el p 0).el n 0).toB = true) : (((t2B st ta p n ++ bl noB) ++ bl (itW (n : Int))) ++ bl coB) ++ bl neB = t2B st ta p (n + 1) := by
  rw [← t2B_succ, nodB, lnS_4, h]
  have : bl neB = bl (stT true ((ta.el p 0).el n 1)) ++ [10] := rfl
  rw [this]
  simp only [List.append_assoc]
theorem E_noth {st : Int} {ta : D} {p n : Nat} (h : ((ta.el p 0).el n 1).len = 0) : (((t2B st ta p n ++ bl noB) ++ bl (itW (n : Int))) ++ bl coB) ++ bl nthB = t2B st ta p n ++ ndB (ta.el p 0) n 0 := by
  have : ntB ((ta.el p 0).el n 1) = bl nthB := by rw [ntB, if_pos h]; rfl
  rw [ndB, hnB, this, vaB]
  simp only [List.append_assoc, List.append_nil]
theorem E_some {st : Int} {ta : D} {p n : Nat} (h : ((ta.el p 0).el n 1).len ≠ 0) : ((t2B st ta p n ++ bl noB) ++ bl (itW (n : Int))) ++ bl coB = t2B st ta p n ++ ndB (ta.el p 0) n 0 := by
  have : ntB ((ta.el p 0).el n 1) = [] := by rw [ntB, if_neg h]
  rw [ndB, hnB, this, vaB]
  simp only [List.append_assoc, List.append_nil]
theorem E_v1 (T : List UInt8) (a : D) (n : Nat) {v : Nat} (h : v > 0) : ((T ++ ndB a n v) ++ bl csp) ++ bl (itT ((a.el n 1).el v 0).toI ((a.el n 1).el v 1).toI) = T ++ ndB a n (v + 1) := by
  unfold ndB
  rw [vaB, if_pos h]
  simp only [List.append_assoc]; rfl
theorem E_v0 (T : List UInt8) (a : D) (n : Nat) {v : Nat} (h : ¬ v > 0) : (T ++ ndB a n v) ++ bl (itT ((a.el n 1).el v 0).toI ((a.el n 1).el v 1).toI) = T ++ ndB a n (v + 1) := by
  unfold ndB
  rw [vaB, if_neg h]
  simp only [List.append_assoc, List.append_nil]; rfl
theorem stT_bl (ds : D) : bl (stT false ds) = ntB ds ++ vaB ds ds.len := by
  unfold ntB stT
  rw [if_neg (by decide)]
  by_cases h : ds.len = 0
  · rw [if_pos h, if_pos h, h, vaB, List.append_nil]
  · rw [if_neg h, if_neg h, vaB_join]; rfl
theorem E_nend {st : Int} {ta : D} {p n : Nat} (h : ((ta.el p 0).el n 0).toB = false) : (t2B st ta p n ++ ndB (ta.el p 0) n ((ta.el p 0).el n 1).len) ++ bl nlB = t2B st ta p (n + 1) := by
  rw [← t2B_succ, nodB, lnS_4, h, stT_bl, ndB, hnB, bl_nl]
  simp only [List.append_assoc]
theorem E_ch (T : List UInt8) (le : D) (c : Nat) : ((((T ++ bl chnB) ++ bl (itW (c : Int))) ++ bl coB) ++ bl (itT (le.el c 0).toI (le.el c 1).toI)) ++ bl msB = (T ++ hcB le c) ++ tcB (le.el c 2) 0 := by
  have : tcB (le.el c 2) 0 = [] := rfl
  rw [this, List.append_nil, hcB]
  simp only [List.append_assoc]
theorem E_tag (T : List UInt8) (vs : D) {t : Nat} (h : (vs.el t 0).toI ≤ (vs.el t 1).toI) : ((((T ++ tcB vs t) ++ bl taB) ++ bl (itW (t : Int))) ++ bl coB) ++ bl (itT (vs.el t 0).toI (vs.el t 1).toI) = T ++ tcB vs (t + 1) := by
  have : tcB vs (t + 1) = tcB vs t ++ bl (tgT vs t) := by
    unfold tcB
    rw [tgL, if_neg (by omega), List.flatMap_append, List.flatMap_cons, List.flatMap_nil, List.append_nil]
  rw [this, tgT, bl_app, bl_app, bl_app]
  simp only [List.append_assoc]
theorem E_tag0 (T : List UInt8) (vs : D) {t : Nat} (h : ¬ (vs.el t 0).toI ≤ (vs.el t 1).toI) : T ++ tcB vs t = T ++ tcB vs (t + 1) := by
  have : tcB vs (t + 1) = tcB vs t := by
    unfold tcB
    rw [tgL, if_pos (by omega)]
  rw [this]
theorem E_cend (st : Int) (ta le : D) (c : Nat) : ((t3B st ta le c ++ hcB le c) ++ tcB (le.el c 2) (le.el c 2).len) ++ bl nlB = t3B st ta le (c + 1) := by
  have e : bl (elT (le.el c 0).toI (le.el c 1).toI (le.el c 2)) = (bl (itT (le.el c 0).toI (le.el c 1).toI) ++ bl msB) ++ tcB (le.el c 2) (le.el c 2).len := by
    show elB _ _ _ _ = _
    unfold elB tcB
    rw [bl_app]
  rw [← t3B_succ, chaB, lnS_4, e, hcB, bl_nl]
  simp only [List.append_assoc]
theorem E_al (st : Int) (ta le la : D) (i : Nat) : (t4B st ta le la i ++ bl (alT (la.el i 0).toI (la.el i 1).toI (la.el i 2).toI)) ++ bl nlB = t4B st ta le la (i + 1) := by
  rw [← t4B_succ, alaB, lnS_1, bl_nl, List.append_assoc]
theorem E_e0 (st : Int) (ta le la : D) (h : la.len = 0) : t4B st ta le la la.len ++ bl naB = teB st ta le la := by
  have : lnS [alsT (la.len : Int)] = bl naB := by rw [lnS_1, alsT, if_pos (by omega)]; rfl
  rw [teB, this]
theorem E_e1 (st : Int) (ta le la : D) (h : la.len ≠ 0) : (t4B st ta le la la.len ++ bl (itW (la.len : Int))) ++ bl anB = teB st ta le la := by
  have : lnS [alsT (la.len : Int)] = bl (itW (la.len : Int)) ++ bl anB := by rw [lnS_1, alsT, if_neg (by omega), bl_app, List.append_assoc]; rfl
  rw [teB, this, List.append_assoc]
theorem vaB_len {ds : D} (hd : itsOK ds) {v : Nat} (hv : v ≤ ds.len) : (vaB ds v).length ≤ 48000 := by
  rw [← vaB_join]
  refine Nat.le_trans (join_le (k := 46) fun x hx => ?_) ?_
  · obtain ⟨i, hi, rfl⟩ := List.mem_map.1 hx
    have := hd.2 i (by have := List.mem_range.1 hi; omega)
    have := itT_size this.1 this.2
    rw [Array.length_toList]; exact this
  · rw [List.length_map, List.length_range]
    have : csp.data.toList.length = 2 := rfl
    rw [this]; have := hd.1; omega
theorem ndB_len {a : D} {n v : Nat} (hd : itsOK (a.el n 1)) (hn : n ≤ 1000) (hv : v ≤ (a.el n 1).len) : (ndB a n v).length ≤ 48100 := by
  have h1 := itZ (nN (i := n) (by omega))
  have h2 := vaB_len hd hv
  have h3 : (ntB (a.el n 1)).length ≤ 7 := by
    unfold ntB
    split <;> decide
  unfold ndB hnB
  simp only [List.length_append, bl_len, sz_no, sz_co]; omega
theorem hcB_len {le : D} {c : Nat} (hc : c ≤ 1000) (h : nI (le.el c 0).toI ∧ nI (le.el c 1).toI) : (hcB le c).length ≤ 100 := by
  have h1 := itZ (nN (i := c) (by omega))
  have h2 := itT_size h.1 h.2
  have h3 : msB.size = 9 := rfl
  unfold hcB
  simp only [List.length_append, bl_len, sz_ch, sz_co]; omega
theorem tcB_len {vs : D} (h : itsOK vs) {t : Nat} (ht : t ≤ vs.len) : (tcB vs t).length ≤ 75000 := by
  have h3 := flat_len (l := tgL vs t) (f := fun t => bl (tgT vs t)) (k := 75) fun t h2 => by rw [bl_len]; exact tgT_size h (by have := tgL_mem h2; omega)
  have := tgL_len vs t
  have := h.1
  unfold tcB; omega
noncomputable def rtxS : FSpec := fun ds _ => match ds with
  | [.d ta, .d le, .d la, .i st] => some { val := .one (.sc (.raw (.string (teT st ta le la)))), vc := [teOK st ta le la] }
  | _ => none
noncomputable def rtxC : Con := con [.agg [.c (.rows 97), .c (.rows 96), .c (.rows 72), .c (.int .i64)]] rtxS
theorem rtx_ok : ConOK Tryd.prog 21 rtxC := by
  refine fn_ob tt_ok mixed Tryd.func21 rfl (fun _ _ => by kernel_rfl) (A := fun ds => ⟨fun _ => Cons.of [(37, nmbC), (16, ritC), (18, ralC)], fun k => match k, ds with | 3, [.d ta, .d le, .d la, .i st] => some { ι := Nat, pre := fun _ i => i ≤ ta.len, μ := fun i => ta.len - i, st := fun s i => famR s [(4, .one (.sc (.int .i64 (.sym ((i : Nat)))))), (3, .one (.sc (.raw (.string (mkB (t1B st ta i))))))] [1, 2] [] [1] } | 7, [.d ta, .d le, .d la, .i st] => some { ι := Nat, pre := fun s i => i ≤ (ta.el (slotN s 4) 0).len ∧ True, μ := fun i => 1001 - i, st := fun s i => famR s [(5, .one (.sc (.int .i64 (.sym ((i : Nat)))))), (3, .one (.sc (.raw (.string (mkB (t2B st ta (slotN s 4) i))))))] [1, 2, 4] [] [1] } | 16, [.d ta, .d le, .d la, .i st] => some { ι := Nat, pre := fun s i => i ≤ ((ta.el (slotN s 4) 0).el (slotN s 5) 1).len ∧ True, μ := fun i => 1001 - i, st := fun s i => famR s [(7, .one (.sc (.int .i64 (.sym ((i : Nat)))))), (3, .one (.sc (.raw (.string (mkB (t2B st ta (slotN s 4) (slotN s 5) ++ ndB (ta.el (slotN s 4) 0) (slotN s 5) i))))))] [1, 2, 4, 5, 6] [] [1, 6] } | 23, [.d ta, .d le, .d la, .i st] => some { ι := Nat, pre := fun _ i => i ≤ le.len, μ := fun i => le.len - i, st := fun s i => famR s [(8, .one (.sc (.int .i64 (.sym ((i : Nat)))))), (3, .one (.sc (.raw (.string (mkB (t3B st ta le i))))))] [1, 2] [] [1] } | 28, [.d ta, .d le, .d la, .i st] => some { ι := Nat, pre := fun s i => i ≤ (le.el (slotN s 8) 2).len ∧ True, μ := fun i => 1001 - i, st := fun s i => famR s [(10, .one (.sc (.int .i64 (.sym ((i : Nat)))))), (3, .one (.sc (.raw (.string (mkB ((t3B st ta le (slotN s 8) ++ hcB le (slotN s 8)) ++ tcB (le.el (slotN s 8) 2) i))))))] [1, 2, 8, 9] [] [1, 9] } | 34, [.d ta, .d le, .d la, .i st] => some { ι := Nat, pre := fun _ i => i ≤ la.len, μ := fun i => la.len - i, st := fun s i => famR s [(11, .one (.sc (.int .i64 (.sym ((i : Nat)))))), (3, .one (.sc (.raw (.string (mkB (t4B st ta le la i))))))] [1, 2] [] [1] } | _, _ => none, fun _ => none⟩) (fun _ _ => (cons_cons nmb_ok (cons_cons rit_ok (cons_cons ral_ok cons_nil)))) (by kernel_rfl) ?_
  intro ds fr
  unfold rtxS
  split
  · rename_i ta le la st
    refine kmp (q := teOK st ta le la →
 nI st ∧
 (↑((ByteArray.mk #[(115 : UInt8), (116 : UInt8), (101 : UInt8), (112 : UInt8), (115 : UInt8), (32 : UInt8)]).size + (itW st).size) : Int) ≤ IntKind.i64.max ∧
 (↑(((ByteArray.mk #[(115 : UInt8), (116 : UInt8), (101 : UInt8), (112 : UInt8), (115 : UInt8), (32 : UInt8)]) ++ itW st).size +
 (ByteArray.mk #[(10 : UInt8)]).size) :
 Int) ≤
 IntKind.i64.max ∧
 (∃ (i : Nat),
 i.le ta.len ∧
 (0 : Int) = (↑i : Int) ∧
 Value.string
 ((ByteArray.mk #[(115 : UInt8), (116 : UInt8), (101 : UInt8), (112 : UInt8), (115 : UInt8), (32 : UInt8)]) ++ itW st ++
 (ByteArray.mk #[(10 : UInt8)])) =
 Value.string (mkB (t1B st ta i)) ∧
 Value.string (ByteArray.mk #[]) = Value.string (ByteArray.mk #[]) ∧ ta.rows = ta.rows ∧ le.rows = le.rows ∧ la.rows = la.rows ∧ st = st) ∧
 ∀ (i : Nat),
 i.le ta.len →
 (decide ((↑i : Int) < (↑ta.len : Int)) = true →
 (↑((mkB (t1B st ta i)).size +
 (ByteArray.mk #[(112 : UInt8), (114 : UInt8), (111 : UInt8), (99 : UInt8), (101 : UInt8), (115 : UInt8), (115 : UInt8),
 (32 : UInt8)]).size) :
 Int) ≤
 IntKind.i64.max ∧
 nI (↑i : Int) ∧
 (↑((mkB (t1B st ta i) ++
 (ByteArray.mk #[(112 : UInt8), (114 : UInt8), (111 : UInt8), (99 : UInt8), (101 : UInt8), (115 : UInt8), (115 : UInt8),
 (32 : UInt8)])).size +
 (itW (↑i : Int)).size) :
 Int) ≤
 IntKind.i64.max ∧
 (↑((mkB (t1B st ta i) ++
 (ByteArray.mk #[(112 : UInt8), (114 : UInt8), (111 : UInt8), (99 : UInt8), (101 : UInt8), (115 : UInt8), (115 : UInt8),
 (32 : UInt8)]) ++
 itW (↑i : Int)).size +
 (ByteArray.mk #[(10 : UInt8)]).size) :
 Int) ≤
 IntKind.i64.max ∧
 (∃ (i_1 : Nat),
 (i_1 ≤ (ta.el i (0 : Nat)).len ∧ True) ∧
 (0 : Int) = (↑i_1 : Int) ∧
 Value.string
 (mkB (t1B st ta i) ++
 (ByteArray.mk #[(112 : UInt8), (114 : UInt8), (111 : UInt8), (99 : UInt8), (101 : UInt8), (115 : UInt8), (115 : UInt8),
 (32 : UInt8)]) ++
 itW (↑i : Int) ++
 (ByteArray.mk #[(10 : UInt8)])) =
 Value.string (mkB (t2B st ta i i_1)) ∧
 Value.string (ByteArray.mk #[]) = Value.string (ByteArray.mk #[]) ∧
 (↑i : Int) = (↑i : Int) ∧ ta.rows = ta.rows ∧ le.rows = le.rows ∧ la.rows = la.rows ∧ st = st) ∧
 ∀ (i_1 : Nat),
 i_1 ≤ (ta.el i (0 : Nat)).len ∧ True →
 ((0 : Int) ≤ (↑i : Int) ∧ (↑i : Int) < (↑ta.len : Int)) ∧
 (decide ((↑i_1 : Int) < (↑(ta.el (↑i : Int).toNat (0 : Nat)).len : Int)) = true →
 ((0 : Int) ≤ (↑i : Int) ∧ (↑i : Int) < (↑ta.len : Int)) ∧
 ((0 : Int) ≤ (↑i_1 : Int) ∧ (↑i_1 : Int) < (↑(ta.el (↑i : Int).toNat (0 : Nat)).len : Int)) ∧
 (↑((mkB (t2B st ta i i_1)).size +
 (ByteArray.mk #[(110 : UInt8), (111 : UInt8), (100 : UInt8), (101 : UInt8), (32 : UInt8)]).size) :
 Int) ≤
 IntKind.i64.max ∧
 nI (↑i_1 : Int) ∧
 (↑((mkB (t2B st ta i i_1) ++
 (ByteArray.mk #[(110 : UInt8), (111 : UInt8), (100 : UInt8), (101 : UInt8), (32 : UInt8)])).size +
 (itW (↑i_1 : Int)).size) :
 Int) ≤
 IntKind.i64.max ∧
 (↑((mkB (t2B st ta i i_1) ++
 (ByteArray.mk #[(110 : UInt8), (111 : UInt8), (100 : UInt8), (101 : UInt8), (32 : UInt8)]) ++
 itW (↑i_1 : Int)).size +
 (ByteArray.mk #[(58 : UInt8), (32 : UInt8)]).size) :
 Int) ≤
 IntKind.i64.max ∧
 (((ta.el (↑i : Int).toNat (0 : Nat)).el (↑i_1 : Int).toNat (0 : Nat)).toB = true →
 (↑((mkB (t2B st ta i i_1) ++
 (ByteArray.mk #[(110 : UInt8), (111 : UInt8), (100 : UInt8), (101 : UInt8), (32 : UInt8)]) ++
 itW (↑i_1 : Int) ++
 (ByteArray.mk #[(58 : UInt8), (32 : UInt8)])).size +
 (ByteArray.mk #[(110 : UInt8), (101 : UInt8), (118 : UInt8), (101 : UInt8), (114 : UInt8),
 (10 : UInt8)]).size) :
 Int) ≤
 IntKind.i64.max ∧
 ∃ (j : Nat),
 (j ≤ (ta.el i (0 : Nat)).len ∧ True) ∧
 (1001 : Nat) - j < (1001 : Nat) - i_1 ∧
 IntKind.i64.wrap ((↑i_1 : Int) + (1 : Int)) = (↑j : Int) ∧
 Value.string
 (mkB (t2B st ta i i_1) ++
 (ByteArray.mk #[(110 : UInt8), (111 : UInt8), (100 : UInt8), (101 : UInt8),
 (32 : UInt8)]) ++
 itW (↑i_1 : Int) ++
 (ByteArray.mk #[(58 : UInt8), (32 : UInt8)]) ++
 (ByteArray.mk #[(110 : UInt8), (101 : UInt8), (118 : UInt8), (101 : UInt8), (114 : UInt8),
 (10 : UInt8)])) =
 Value.string (mkB (t2B st ta i j)) ∧
 Value.string (ByteArray.mk #[]) = Value.string (ByteArray.mk #[]) ∧
 (↑i : Int) = (↑i : Int) ∧
 ta.rows = ta.rows ∧ le.rows = le.rows ∧ la.rows = la.rows ∧ st = st) ∧
 (((ta.el (↑i : Int).toNat (0 : Nat)).el (↑i_1 : Int).toNat (0 : Nat)).toB = false →
 (((↑((ta.el (↑i : Int).toNat (0 : Nat)).el (↑i_1 : Int).toNat ((0 : Nat) + (1 : Nat))).len : Int) ==
 (0 : Int)) =
 true →
 (↑((mkB (t2B st ta i i_1) ++
 (ByteArray.mk #[(110 : UInt8), (111 : UInt8), (100 : UInt8), (101 : UInt8), (32 : UInt8)]) ++
 itW (↑i_1 : Int) ++
 (ByteArray.mk #[(58 : UInt8), (32 : UInt8)])).size +
 (ByteArray.mk #[(110 : UInt8), (111 : UInt8), (116 : UInt8), (104 : UInt8), (105 : UInt8),
 (110 : UInt8), (103 : UInt8)]).size) :
 Int) ≤
 IntKind.i64.max ∧
 (∃ (i_2 : Nat),
 (i_2 ≤ ((ta.el i (0 : Nat)).el i_1 (1 : Nat)).len ∧ True) ∧
 (0 : Int) = (↑i_2 : Int) ∧
 Value.string
 (mkB (t2B st ta i i_1) ++
 (ByteArray.mk #[(110 : UInt8), (111 : UInt8), (100 : UInt8), (101 : UInt8),
 (32 : UInt8)]) ++
 itW (↑i_1 : Int) ++
 (ByteArray.mk #[(58 : UInt8), (32 : UInt8)]) ++
 (ByteArray.mk #[(110 : UInt8), (111 : UInt8), (116 : UInt8), (104 : UInt8), (105 : UInt8),
 (110 : UInt8), (103 : UInt8)])) =
 Value.string (mkB (t2B st ta i i_1 ++ ndB (ta.el i (0 : Nat)) i_1 i_2)) ∧
 Value.string (ByteArray.mk #[]) = Value.string (ByteArray.mk #[]) ∧
 (↑i : Int) = (↑i : Int) ∧
 (↑i_1 : Int) = (↑i_1 : Int) ∧
 ta.rows = ta.rows ∧
 le.rows = le.rows ∧
 la.rows = la.rows ∧
 st = st ∧
 ((ta.el (↑i : Int).toNat (0 : Nat)).el (↑i_1 : Int).toNat (0 : Nat)).toB =
 ((ta.el (↑i : Int).toNat (0 : Nat)).el (↑i_1 : Int).toNat
 (0 : Nat)).toB ∧
 ((ta.el (↑i : Int).toNat (0 : Nat)).el (↑i_1 : Int).toNat
 ((0 : Nat) + (1 : Nat))).rows =
 ((ta.el (↑i : Int).toNat (0 : Nat)).el (↑i_1 : Int).toNat
 ((0 : Nat) + (1 : Nat))).rows ∧
 ((ta.el (↑i : Int).toNat (0 : Nat)).el (↑i_1 : Int).toNat
 ((0 : Nat) + (1 : Nat) + (1 : Nat))).toI =
 ((ta.el (↑i : Int).toNat (0 : Nat)).el (↑i_1 : Int).toNat
 ((0 : Nat) + (1 : Nat) + (1 : Nat))).toI ∧
 ((ta.el (↑i : Int).toNat (0 : Nat)).el (↑i_1 : Int).toNat
 ((0 : Nat) + (1 : Nat) + (1 : Nat) + (1 : Nat))).toB =
 ((ta.el (↑i : Int).toNat (0 : Nat)).el (↑i_1 : Int).toNat
 ((0 : Nat) + (1 : Nat) + (1 : Nat) + (1 : Nat))).toB ∧
 (∀ (o : Nat),
 o < (49 : Nat) →
 ((ta.el (↑i : Int).toNat (0 : Nat)).el (↑i_1 : Int).toNat
 ((0 : Nat) + (1 : Nat) + (1 : Nat) + (1 : Nat) +
 (1 : Nat) +
 o)).toI =
 ((ta.el (↑i : Int).toNat (0 : Nat)).el (↑i_1 : Int).toNat
 ((0 : Nat) + (1 : Nat) + (1 : Nat) + (1 : Nat) +
 (1 : Nat) +
 o)).toI) ∧
 ((ta.el (↑i : Int).toNat (0 : Nat)).el (↑i_1 : Int).toNat
 ((0 : Nat) + (1 : Nat) + (1 : Nat) + (1 : Nat) +
 (1 : Nat) +
 (49 : Nat))).rows =
 ((ta.el (↑i : Int).toNat (0 : Nat)).el (↑i_1 : Int).toNat
 ((0 : Nat) + (1 : Nat) + (1 : Nat) + (1 : Nat) +
 (1 : Nat) +
 (49 : Nat))).rows ∧
 ((ta.el (↑i : Int).toNat (0 : Nat)).el (↑i_1 : Int).toNat
 ((0 : Nat) + (1 : Nat) + (1 : Nat) + (1 : Nat) +
 (1 : Nat) +
 (49 : Nat) +
 (1 : Nat))).rows =
 ((ta.el (↑i : Int).toNat (0 : Nat)).el (↑i_1 : Int).toNat
 ((0 : Nat) + (1 : Nat) + (1 : Nat) + (1 : Nat) +
 (1 : Nat) +
 (49 : Nat) +
 (1 : Nat))).rows) ∧
 ∀ (i_2 : Nat),
 i_2 ≤ ((ta.el i (0 : Nat)).el i_1 (1 : Nat)).len ∧ True →
 (decide
 ((↑i_2 : Int) <
 (↑((ta.el (↑i : Int).toNat (0 : Nat)).el (↑i_1 : Int).toNat
 ((0 : Nat) + (1 : Nat))).len :
 Int)) =
 true →
 (decide ((↑i_2 : Int) > (0 : Int)) = true →
 (↑((mkB (t2B st ta i i_1 ++ ndB (ta.el i (0 : Nat)) i_1 i_2)).size +
 (ByteArray.mk #[(44 : UInt8), (32 : UInt8)]).size) :
 Int) ≤
 IntKind.i64.max ∧
 ((0 : Int) ≤ (↑i_2 : Int) ∧
 (↑i_2 : Int) <
 (↑((ta.el (↑i : Int).toNat (0 : Nat)).el (↑i_1 : Int).toNat
 ((0 : Nat) + (1 : Nat))).len :
 Int)) ∧
 ((0 : Int) ≤ (↑i_2 : Int) ∧
 (↑i_2 : Int) <
 (↑((ta.el (↑i : Int).toNat (0 : Nat)).el (↑i_1 : Int).toNat
 ((0 : Nat) + (1 : Nat))).len :
 Int)) ∧
 nI
 (((ta.el (↑i : Int).toNat (0 : Nat)).el (↑i_1 : Int).toNat
 ((0 : Nat) + (1 : Nat))).el
 (↑i_2 : Int).toNat ((0 : Nat) + (0 : Nat))).toI ∧
 nI
 (((ta.el (↑i : Int).toNat (0 : Nat)).el (↑i_1 : Int).toNat
 ((0 : Nat) + (1 : Nat))).el
 (↑i_2 : Int).toNat ((0 : Nat) + (1 : Nat))).toI ∧
 (↑((mkB (t2B st ta i i_1 ++ ndB (ta.el i (0 : Nat)) i_1 i_2) ++
 (ByteArray.mk #[(44 : UInt8), (32 : UInt8)])).size +
 (itT
 (((ta.el (↑i : Int).toNat (0 : Nat)).el (↑i_1 : Int).toNat
 ((0 : Nat) + (1 : Nat))).el
 (↑i_2 : Int).toNat ((0 : Nat) + (0 : Nat))).toI
 (((ta.el (↑i : Int).toNat (0 : Nat)).el (↑i_1 : Int).toNat
 ((0 : Nat) + (1 : Nat))).el
 (↑i_2 : Int).toNat ((0 : Nat) + (1 : Nat))).toI).size) :
 Int) ≤
 IntKind.i64.max ∧
 ∃ (j : Nat),
 (j ≤ ((ta.el i (0 : Nat)).el i_1 (1 : Nat)).len ∧ True) ∧
 (1001 : Nat) - j < (1001 : Nat) - i_2 ∧
 IntKind.i64.wrap ((↑i_2 : Int) + (1 : Int)) = (↑j : Int) ∧
 Value.string
 (mkB (t2B st ta i i_1 ++ ndB (ta.el i (0 : Nat)) i_1 i_2) ++
 (ByteArray.mk #[(44 : UInt8), (32 : UInt8)]) ++
 itT
 (((ta.el (↑i : Int).toNat (0 : Nat)).el
 (↑i_1 : Int).toNat ((0 : Nat) + (1 : Nat))).el
 (↑i_2 : Int).toNat ((0 : Nat) + (0 : Nat))).toI
 (((ta.el (↑i : Int).toNat (0 : Nat)).el
 (↑i_1 : Int).toNat ((0 : Nat) + (1 : Nat))).el
 (↑i_2 : Int).toNat ((0 : Nat) + (1 : Nat))).toI) =
 Value.string
 (mkB (t2B st ta i i_1 ++ ndB (ta.el i (0 : Nat)) i_1 j)) ∧
 Value.string (ByteArray.mk #[]) = Value.string (ByteArray.mk #[]) ∧
 (↑i : Int) = (↑i : Int) ∧
 (↑i_1 : Int) = (↑i_1 : Int) ∧
 ta.rows = ta.rows ∧
 le.rows = le.rows ∧
 la.rows = la.rows ∧
 st = st ∧
 ((ta.el (↑i : Int).toNat (0 : Nat)).el
 (↑i_1 : Int).toNat (0 : Nat)).toB =
 ((ta.el (↑i : Int).toNat (0 : Nat)).el
 (↑i_1 : Int).toNat (0 : Nat)).toB ∧
 ((ta.el (↑i : Int).toNat (0 : Nat)).el
 (↑i_1 : Int).toNat
 ((0 : Nat) + (1 : Nat))).rows =
 ((ta.el (↑i : Int).toNat (0 : Nat)).el
 (↑i_1 : Int).toNat
 ((0 : Nat) + (1 : Nat))).rows ∧
 ((ta.el (↑i : Int).toNat (0 : Nat)).el
 (↑i_1 : Int).toNat
 ((0 : Nat) + (1 : Nat) +
 (1 : Nat))).toI =
 ((ta.el (↑i : Int).toNat (0 : Nat)).el
 (↑i_1 : Int).toNat
 ((0 : Nat) + (1 : Nat) +
 (1 : Nat))).toI ∧
 ((ta.el (↑i : Int).toNat (0 : Nat)).el
 (↑i_1 : Int).toNat
 ((0 : Nat) + (1 : Nat) + (1 : Nat) +
 (1 : Nat))).toB =
 ((ta.el (↑i : Int).toNat (0 : Nat)).el
 (↑i_1 : Int).toNat
 ((0 : Nat) + (1 : Nat) + (1 : Nat) +
 (1 : Nat))).toB ∧
 (∀ (o : Nat),
 o < (49 : Nat) →
 ((ta.el (↑i : Int).toNat
 (0 : Nat)).el
 (↑i_1 : Int).toNat
 ((0 : Nat) + (1 : Nat) +
 (1 : Nat) +
 (1 : Nat) +
 (1 : Nat) +
 o)).toI =
 ((ta.el (↑i : Int).toNat
 (0 : Nat)).el
 (↑i_1 : Int).toNat
 ((0 : Nat) + (1 : Nat) +
 (1 : Nat) +
 (1 : Nat) +
 (1 : Nat) +
 o)).toI) ∧
 ((ta.el (↑i : Int).toNat (0 : Nat)).el
 (↑i_1 : Int).toNat
 ((0 : Nat) + (1 : Nat) +
 (1 : Nat) +
 (1 : Nat) +
 (1 : Nat) +
 (49 : Nat))).rows =
 ((ta.el (↑i : Int).toNat
 (0 : Nat)).el
 (↑i_1 : Int).toNat
 ((0 : Nat) + (1 : Nat) +
 (1 : Nat) +
 (1 : Nat) +
 (1 : Nat) +
 (49 : Nat))).rows ∧
 ((ta.el (↑i : Int).toNat (0 : Nat)).el
 (↑i_1 : Int).toNat
 ((0 : Nat) + (1 : Nat) +
 (1 : Nat) +
 (1 : Nat) +
 (1 : Nat) +
 (49 : Nat) +
 (1 : Nat))).rows =
 ((ta.el (↑i : Int).toNat
 (0 : Nat)).el
 (↑i_1 : Int).toNat
 ((0 : Nat) + (1 : Nat) +
 (1 : Nat) +
 (1 : Nat) +
 (1 : Nat) +
 (49 : Nat) +
 (1 : Nat))).rows) ∧
 (decide ((↑i_2 : Int) > (0 : Int)) = false →
 ((0 : Int) ≤ (↑i_2 : Int) ∧
 (↑i_2 : Int) <
 (↑((ta.el (↑i : Int).toNat (0 : Nat)).el (↑i_1 : Int).toNat
 ((0 : Nat) + (1 : Nat))).len :
 Int)) ∧
 ((0 : Int) ≤ (↑i_2 : Int) ∧
 (↑i_2 : Int) <
 (↑((ta.el (↑i : Int).toNat (0 : Nat)).el (↑i_1 : Int).toNat
 ((0 : Nat) + (1 : Nat))).len :
 Int)) ∧
 nI
 (((ta.el (↑i : Int).toNat (0 : Nat)).el (↑i_1 : Int).toNat
 ((0 : Nat) + (1 : Nat))).el
 (↑i_2 : Int).toNat ((0 : Nat) + (0 : Nat))).toI ∧
 nI
 (((ta.el (↑i : Int).toNat (0 : Nat)).el (↑i_1 : Int).toNat
 ((0 : Nat) + (1 : Nat))).el
 (↑i_2 : Int).toNat ((0 : Nat) + (1 : Nat))).toI ∧
 (↑((mkB (t2B st ta i i_1 ++ ndB (ta.el i (0 : Nat)) i_1 i_2)).size +
 (itT
 (((ta.el (↑i : Int).toNat (0 : Nat)).el (↑i_1 : Int).toNat
 ((0 : Nat) + (1 : Nat))).el
 (↑i_2 : Int).toNat ((0 : Nat) + (0 : Nat))).toI
 (((ta.el (↑i : Int).toNat (0 : Nat)).el (↑i_1 : Int).toNat
 ((0 : Nat) + (1 : Nat))).el
 (↑i_2 : Int).toNat ((0 : Nat) + (1 : Nat))).toI).size) :
 Int) ≤
 IntKind.i64.max ∧
 ∃ (j : Nat),
 (j ≤ ((ta.el i (0 : Nat)).el i_1 (1 : Nat)).len ∧ True) ∧
 (1001 : Nat) - j < (1001 : Nat) - i_2 ∧
 IntKind.i64.wrap ((↑i_2 : Int) + (1 : Int)) = (↑j : Int) ∧
 Value.string
 (mkB (t2B st ta i i_1 ++ ndB (ta.el i (0 : Nat)) i_1 i_2) ++
 itT
 (((ta.el (↑i : Int).toNat (0 : Nat)).el (↑i_1 : Int).toNat
 ((0 : Nat) + (1 : Nat))).el
 (↑i_2 : Int).toNat ((0 : Nat) + (0 : Nat))).toI
 (((ta.el (↑i : Int).toNat (0 : Nat)).el (↑i_1 : Int).toNat
 ((0 : Nat) + (1 : Nat))).el
 (↑i_2 : Int).toNat ((0 : Nat) + (1 : Nat))).toI) =
 Value.string
 (mkB (t2B st ta i i_1 ++ ndB (ta.el i (0 : Nat)) i_1 j)) ∧
 Value.string (ByteArray.mk #[]) = Value.string (ByteArray.mk #[]) ∧
 (↑i : Int) = (↑i : Int) ∧
 (↑i_1 : Int) = (↑i_1 : Int) ∧
 ta.rows = ta.rows ∧
 le.rows = le.rows ∧
 la.rows = la.rows ∧
 st = st ∧
 ((ta.el (↑i : Int).toNat (0 : Nat)).el
 (↑i_1 : Int).toNat (0 : Nat)).toB =
 ((ta.el (↑i : Int).toNat (0 : Nat)).el
 (↑i_1 : Int).toNat (0 : Nat)).toB ∧
 ((ta.el (↑i : Int).toNat (0 : Nat)).el
 (↑i_1 : Int).toNat
 ((0 : Nat) + (1 : Nat))).rows =
 ((ta.el (↑i : Int).toNat (0 : Nat)).el
 (↑i_1 : Int).toNat
 ((0 : Nat) + (1 : Nat))).rows ∧
 ((ta.el (↑i : Int).toNat (0 : Nat)).el
 (↑i_1 : Int).toNat
 ((0 : Nat) + (1 : Nat) +
 (1 : Nat))).toI =
 ((ta.el (↑i : Int).toNat (0 : Nat)).el
 (↑i_1 : Int).toNat
 ((0 : Nat) + (1 : Nat) +
 (1 : Nat))).toI ∧
 ((ta.el (↑i : Int).toNat (0 : Nat)).el
 (↑i_1 : Int).toNat
 ((0 : Nat) + (1 : Nat) + (1 : Nat) +
 (1 : Nat))).toB =
 ((ta.el (↑i : Int).toNat (0 : Nat)).el
 (↑i_1 : Int).toNat
 ((0 : Nat) + (1 : Nat) + (1 : Nat) +
 (1 : Nat))).toB ∧
 (∀ (o : Nat),
 o < (49 : Nat) →
 ((ta.el (↑i : Int).toNat (0 : Nat)).el
 (↑i_1 : Int).toNat
 ((0 : Nat) + (1 : Nat) +
 (1 : Nat) +
 (1 : Nat) +
 (1 : Nat) +
 o)).toI =
 ((ta.el (↑i : Int).toNat
 (0 : Nat)).el
 (↑i_1 : Int).toNat
 ((0 : Nat) + (1 : Nat) +
 (1 : Nat) +
 (1 : Nat) +
 (1 : Nat) +
 o)).toI) ∧
 ((ta.el (↑i : Int).toNat (0 : Nat)).el
 (↑i_1 : Int).toNat
 ((0 : Nat) + (1 : Nat) +
 (1 : Nat) +
 (1 : Nat) +
 (1 : Nat) +
 (49 : Nat))).rows =
 ((ta.el (↑i : Int).toNat (0 : Nat)).el
 (↑i_1 : Int).toNat
 ((0 : Nat) + (1 : Nat) +
 (1 : Nat) +
 (1 : Nat) +
 (1 : Nat) +
 (49 : Nat))).rows ∧
 ((ta.el (↑i : Int).toNat (0 : Nat)).el
 (↑i_1 : Int).toNat
 ((0 : Nat) + (1 : Nat) +
 (1 : Nat) +
 (1 : Nat) +
 (1 : Nat) +
 (49 : Nat) +
 (1 : Nat))).rows =
 ((ta.el (↑i : Int).toNat (0 : Nat)).el
 (↑i_1 : Int).toNat
 ((0 : Nat) + (1 : Nat) +
 (1 : Nat) +
 (1 : Nat) +
 (1 : Nat) +
 (49 : Nat) +
 (1 : Nat))).rows)) ∧
 (decide
 ((↑i_2 : Int) <
 (↑((ta.el (↑i : Int).toNat (0 : Nat)).el (↑i_1 : Int).toNat
 ((0 : Nat) + (1 : Nat))).len :
 Int)) =
 false →
 (↑((mkB (t2B st ta i i_1 ++ ndB (ta.el i (0 : Nat)) i_1 i_2)).size +
 (ByteArray.mk #[(10 : UInt8)]).size) :
 Int) ≤
 IntKind.i64.max ∧
 ∃ (j : Nat),
 (j ≤ (ta.el i (0 : Nat)).len ∧ True) ∧
 (1001 : Nat) - j < (1001 : Nat) - i_1 ∧
 IntKind.i64.wrap ((↑i_1 : Int) + (1 : Int)) = (↑j : Int) ∧
 Value.string
 (mkB (t2B st ta i i_1 ++ ndB (ta.el i (0 : Nat)) i_1 i_2) ++
 (ByteArray.mk #[(10 : UInt8)])) =
 Value.string (mkB (t2B st ta i j)) ∧
 Value.string (ByteArray.mk #[]) = Value.string (ByteArray.mk #[]) ∧
 (↑i : Int) = (↑i : Int) ∧
 ta.rows = ta.rows ∧ le.rows = le.rows ∧ la.rows = la.rows ∧ st = st)) ∧
 (((↑((ta.el (↑i : Int).toNat (0 : Nat)).el (↑i_1 : Int).toNat ((0 : Nat) + (1 : Nat))).len : Int) ==
 (0 : Int)) =
 false →
 (∃ (i_2 : Nat),
 (i_2 ≤ ((ta.el i (0 : Nat)).el i_1 (1 : Nat)).len ∧ True) ∧
 (0 : Int) = (↑i_2 : Int) ∧
 Value.string
 (mkB (t2B st ta i i_1) ++
 (ByteArray.mk #[(110 : UInt8), (111 : UInt8), (100 : UInt8), (101 : UInt8),
 (32 : UInt8)]) ++
 itW (↑i_1 : Int) ++
 (ByteArray.mk #[(58 : UInt8), (32 : UInt8)])) =
 Value.string (mkB (t2B st ta i i_1 ++ ndB (ta.el i (0 : Nat)) i_1 i_2)) ∧
 Value.string (ByteArray.mk #[]) = Value.string (ByteArray.mk #[]) ∧
 (↑i : Int) = (↑i : Int) ∧
 (↑i_1 : Int) = (↑i_1 : Int) ∧
 ta.rows = ta.rows ∧
 le.rows = le.rows ∧
 la.rows = la.rows ∧
 st = st ∧
 ((ta.el (↑i : Int).toNat (0 : Nat)).el (↑i_1 : Int).toNat (0 : Nat)).toB =
 ((ta.el (↑i : Int).toNat (0 : Nat)).el (↑i_1 : Int).toNat (0 : Nat)).toB ∧
 ((ta.el (↑i : Int).toNat (0 : Nat)).el (↑i_1 : Int).toNat
 ((0 : Nat) + (1 : Nat))).rows =
 ((ta.el (↑i : Int).toNat (0 : Nat)).el (↑i_1 : Int).toNat
 ((0 : Nat) + (1 : Nat))).rows ∧
 ((ta.el (↑i : Int).toNat (0 : Nat)).el (↑i_1 : Int).toNat
 ((0 : Nat) + (1 : Nat) + (1 : Nat))).toI =
 ((ta.el (↑i : Int).toNat (0 : Nat)).el (↑i_1 : Int).toNat
 ((0 : Nat) + (1 : Nat) + (1 : Nat))).toI ∧
 ((ta.el (↑i : Int).toNat (0 : Nat)).el (↑i_1 : Int).toNat
 ((0 : Nat) + (1 : Nat) + (1 : Nat) + (1 : Nat))).toB =
 ((ta.el (↑i : Int).toNat (0 : Nat)).el (↑i_1 : Int).toNat
 ((0 : Nat) + (1 : Nat) + (1 : Nat) + (1 : Nat))).toB ∧
 (∀ (o : Nat),
 o < (49 : Nat) →
 ((ta.el (↑i : Int).toNat (0 : Nat)).el (↑i_1 : Int).toNat
 ((0 : Nat) + (1 : Nat) + (1 : Nat) + (1 : Nat) +
 (1 : Nat) +
 o)).toI =
 ((ta.el (↑i : Int).toNat (0 : Nat)).el (↑i_1 : Int).toNat
 ((0 : Nat) + (1 : Nat) + (1 : Nat) + (1 : Nat) +
 (1 : Nat) +
 o)).toI) ∧
 ((ta.el (↑i : Int).toNat (0 : Nat)).el (↑i_1 : Int).toNat
 ((0 : Nat) + (1 : Nat) + (1 : Nat) + (1 : Nat) + (1 : Nat) +
 (49 : Nat))).rows =
 ((ta.el (↑i : Int).toNat (0 : Nat)).el (↑i_1 : Int).toNat
 ((0 : Nat) + (1 : Nat) + (1 : Nat) + (1 : Nat) + (1 : Nat) +
 (49 : Nat))).rows ∧
 ((ta.el (↑i : Int).toNat (0 : Nat)).el (↑i_1 : Int).toNat
 ((0 : Nat) + (1 : Nat) + (1 : Nat) + (1 : Nat) + (1 : Nat) +
 (49 : Nat) +
 (1 : Nat))).rows =
 ((ta.el (↑i : Int).toNat (0 : Nat)).el (↑i_1 : Int).toNat
 ((0 : Nat) + (1 : Nat) + (1 : Nat) + (1 : Nat) + (1 : Nat) +
 (49 : Nat) +
 (1 : Nat))).rows) ∧
 ∀ (i_2 : Nat),
 i_2 ≤ ((ta.el i (0 : Nat)).el i_1 (1 : Nat)).len ∧ True →
 (decide
 ((↑i_2 : Int) <
 (↑((ta.el (↑i : Int).toNat (0 : Nat)).el (↑i_1 : Int).toNat
 ((0 : Nat) + (1 : Nat))).len :
 Int)) =
 true →
 (decide ((↑i_2 : Int) > (0 : Int)) = true →
 (↑((mkB (t2B st ta i i_1 ++ ndB (ta.el i (0 : Nat)) i_1 i_2)).size +
 (ByteArray.mk #[(44 : UInt8), (32 : UInt8)]).size) :
 Int) ≤
 IntKind.i64.max ∧
 ((0 : Int) ≤ (↑i_2 : Int) ∧
 (↑i_2 : Int) <
 (↑((ta.el (↑i : Int).toNat (0 : Nat)).el (↑i_1 : Int).toNat
 ((0 : Nat) + (1 : Nat))).len :
 Int)) ∧
 ((0 : Int) ≤ (↑i_2 : Int) ∧
 (↑i_2 : Int) <
 (↑((ta.el (↑i : Int).toNat (0 : Nat)).el (↑i_1 : Int).toNat
 ((0 : Nat) + (1 : Nat))).len :
 Int)) ∧
 nI
 (((ta.el (↑i : Int).toNat (0 : Nat)).el (↑i_1 : Int).toNat
 ((0 : Nat) + (1 : Nat))).el
 (↑i_2 : Int).toNat ((0 : Nat) + (0 : Nat))).toI ∧
 nI
 (((ta.el (↑i : Int).toNat (0 : Nat)).el (↑i_1 : Int).toNat
 ((0 : Nat) + (1 : Nat))).el
 (↑i_2 : Int).toNat ((0 : Nat) + (1 : Nat))).toI ∧
 (↑((mkB (t2B st ta i i_1 ++ ndB (ta.el i (0 : Nat)) i_1 i_2) ++
 (ByteArray.mk #[(44 : UInt8), (32 : UInt8)])).size +
 (itT
 (((ta.el (↑i : Int).toNat (0 : Nat)).el (↑i_1 : Int).toNat
 ((0 : Nat) + (1 : Nat))).el
 (↑i_2 : Int).toNat ((0 : Nat) + (0 : Nat))).toI
 (((ta.el (↑i : Int).toNat (0 : Nat)).el (↑i_1 : Int).toNat
 ((0 : Nat) + (1 : Nat))).el
 (↑i_2 : Int).toNat ((0 : Nat) + (1 : Nat))).toI).size) :
 Int) ≤
 IntKind.i64.max ∧
 ∃ (j : Nat),
 (j ≤ ((ta.el i (0 : Nat)).el i_1 (1 : Nat)).len ∧ True) ∧
 (1001 : Nat) - j < (1001 : Nat) - i_2 ∧
 IntKind.i64.wrap ((↑i_2 : Int) + (1 : Int)) = (↑j : Int) ∧
 Value.string
 (mkB (t2B st ta i i_1 ++ ndB (ta.el i (0 : Nat)) i_1 i_2) ++
 (ByteArray.mk #[(44 : UInt8), (32 : UInt8)]) ++
 itT
 (((ta.el (↑i : Int).toNat (0 : Nat)).el (↑i_1 : Int).toNat
 ((0 : Nat) + (1 : Nat))).el
 (↑i_2 : Int).toNat ((0 : Nat) + (0 : Nat))).toI
 (((ta.el (↑i : Int).toNat (0 : Nat)).el (↑i_1 : Int).toNat
 ((0 : Nat) + (1 : Nat))).el
 (↑i_2 : Int).toNat ((0 : Nat) + (1 : Nat))).toI) =
 Value.string
 (mkB (t2B st ta i i_1 ++ ndB (ta.el i (0 : Nat)) i_1 j)) ∧
 Value.string (ByteArray.mk #[]) = Value.string (ByteArray.mk #[]) ∧
 (↑i : Int) = (↑i : Int) ∧
 (↑i_1 : Int) = (↑i_1 : Int) ∧
 ta.rows = ta.rows ∧
 le.rows = le.rows ∧
 la.rows = la.rows ∧
 st = st ∧
 ((ta.el (↑i : Int).toNat (0 : Nat)).el
 (↑i_1 : Int).toNat (0 : Nat)).toB =
 ((ta.el (↑i : Int).toNat (0 : Nat)).el
 (↑i_1 : Int).toNat (0 : Nat)).toB ∧
 ((ta.el (↑i : Int).toNat (0 : Nat)).el
 (↑i_1 : Int).toNat
 ((0 : Nat) + (1 : Nat))).rows =
 ((ta.el (↑i : Int).toNat (0 : Nat)).el
 (↑i_1 : Int).toNat
 ((0 : Nat) + (1 : Nat))).rows ∧
 ((ta.el (↑i : Int).toNat (0 : Nat)).el
 (↑i_1 : Int).toNat
 ((0 : Nat) + (1 : Nat) +
 (1 : Nat))).toI =
 ((ta.el (↑i : Int).toNat (0 : Nat)).el
 (↑i_1 : Int).toNat
 ((0 : Nat) + (1 : Nat) +
 (1 : Nat))).toI ∧
 ((ta.el (↑i : Int).toNat (0 : Nat)).el
 (↑i_1 : Int).toNat
 ((0 : Nat) + (1 : Nat) + (1 : Nat) +
 (1 : Nat))).toB =
 ((ta.el (↑i : Int).toNat (0 : Nat)).el
 (↑i_1 : Int).toNat
 ((0 : Nat) + (1 : Nat) + (1 : Nat) +
 (1 : Nat))).toB ∧
 (∀ (o : Nat),
 o < (49 : Nat) →
 ((ta.el (↑i : Int).toNat (0 : Nat)).el
 (↑i_1 : Int).toNat
 ((0 : Nat) + (1 : Nat) +
 (1 : Nat) +
 (1 : Nat) +
 (1 : Nat) +
 o)).toI =
 ((ta.el (↑i : Int).toNat
 (0 : Nat)).el
 (↑i_1 : Int).toNat
 ((0 : Nat) + (1 : Nat) +
 (1 : Nat) +
 (1 : Nat) +
 (1 : Nat) +
 o)).toI) ∧
 ((ta.el (↑i : Int).toNat (0 : Nat)).el
 (↑i_1 : Int).toNat
 ((0 : Nat) + (1 : Nat) +
 (1 : Nat) +
 (1 : Nat) +
 (1 : Nat) +
 (49 : Nat))).rows =
 ((ta.el (↑i : Int).toNat (0 : Nat)).el
 (↑i_1 : Int).toNat
 ((0 : Nat) + (1 : Nat) +
 (1 : Nat) +
 (1 : Nat) +
 (1 : Nat) +
 (49 : Nat))).rows ∧
 ((ta.el (↑i : Int).toNat (0 : Nat)).el
 (↑i_1 : Int).toNat
 ((0 : Nat) + (1 : Nat) +
 (1 : Nat) +
 (1 : Nat) +
 (1 : Nat) +
 (49 : Nat) +
 (1 : Nat))).rows =
 ((ta.el (↑i : Int).toNat (0 : Nat)).el
 (↑i_1 : Int).toNat
 ((0 : Nat) + (1 : Nat) +
 (1 : Nat) +
 (1 : Nat) +
 (1 : Nat) +
 (49 : Nat) +
 (1 : Nat))).rows) ∧
 (decide ((↑i_2 : Int) > (0 : Int)) = false →
 ((0 : Int) ≤ (↑i_2 : Int) ∧
 (↑i_2 : Int) <
 (↑((ta.el (↑i : Int).toNat (0 : Nat)).el (↑i_1 : Int).toNat
 ((0 : Nat) + (1 : Nat))).len :
 Int)) ∧
 ((0 : Int) ≤ (↑i_2 : Int) ∧
 (↑i_2 : Int) <
 (↑((ta.el (↑i : Int).toNat (0 : Nat)).el (↑i_1 : Int).toNat
 ((0 : Nat) + (1 : Nat))).len :
 Int)) ∧
 nI
 (((ta.el (↑i : Int).toNat (0 : Nat)).el (↑i_1 : Int).toNat
 ((0 : Nat) + (1 : Nat))).el
 (↑i_2 : Int).toNat ((0 : Nat) + (0 : Nat))).toI ∧
 nI
 (((ta.el (↑i : Int).toNat (0 : Nat)).el (↑i_1 : Int).toNat
 ((0 : Nat) + (1 : Nat))).el
 (↑i_2 : Int).toNat ((0 : Nat) + (1 : Nat))).toI ∧
 (↑((mkB (t2B st ta i i_1 ++ ndB (ta.el i (0 : Nat)) i_1 i_2)).size +
 (itT
 (((ta.el (↑i : Int).toNat (0 : Nat)).el (↑i_1 : Int).toNat
 ((0 : Nat) + (1 : Nat))).el
 (↑i_2 : Int).toNat ((0 : Nat) + (0 : Nat))).toI
 (((ta.el (↑i : Int).toNat (0 : Nat)).el (↑i_1 : Int).toNat
 ((0 : Nat) + (1 : Nat))).el
 (↑i_2 : Int).toNat ((0 : Nat) + (1 : Nat))).toI).size) :
 Int) ≤
 IntKind.i64.max ∧
 ∃ (j : Nat),
 (j ≤ ((ta.el i (0 : Nat)).el i_1 (1 : Nat)).len ∧ True) ∧
 (1001 : Nat) - j < (1001 : Nat) - i_2 ∧
 IntKind.i64.wrap ((↑i_2 : Int) + (1 : Int)) = (↑j : Int) ∧
 Value.string
 (mkB (t2B st ta i i_1 ++ ndB (ta.el i (0 : Nat)) i_1 i_2) ++
 itT
 (((ta.el (↑i : Int).toNat (0 : Nat)).el (↑i_1 : Int).toNat
 ((0 : Nat) + (1 : Nat))).el
 (↑i_2 : Int).toNat ((0 : Nat) + (0 : Nat))).toI
 (((ta.el (↑i : Int).toNat (0 : Nat)).el (↑i_1 : Int).toNat
 ((0 : Nat) + (1 : Nat))).el
 (↑i_2 : Int).toNat ((0 : Nat) + (1 : Nat))).toI) =
 Value.string
 (mkB (t2B st ta i i_1 ++ ndB (ta.el i (0 : Nat)) i_1 j)) ∧
 Value.string (ByteArray.mk #[]) = Value.string (ByteArray.mk #[]) ∧
 (↑i : Int) = (↑i : Int) ∧
 (↑i_1 : Int) = (↑i_1 : Int) ∧
 ta.rows = ta.rows ∧
 le.rows = le.rows ∧
 la.rows = la.rows ∧
 st = st ∧
 ((ta.el (↑i : Int).toNat (0 : Nat)).el
 (↑i_1 : Int).toNat (0 : Nat)).toB =
 ((ta.el (↑i : Int).toNat (0 : Nat)).el
 (↑i_1 : Int).toNat (0 : Nat)).toB ∧
 ((ta.el (↑i : Int).toNat (0 : Nat)).el
 (↑i_1 : Int).toNat
 ((0 : Nat) + (1 : Nat))).rows =
 ((ta.el (↑i : Int).toNat (0 : Nat)).el
 (↑i_1 : Int).toNat
 ((0 : Nat) + (1 : Nat))).rows ∧
 ((ta.el (↑i : Int).toNat (0 : Nat)).el
 (↑i_1 : Int).toNat
 ((0 : Nat) + (1 : Nat) + (1 : Nat))).toI =
 ((ta.el (↑i : Int).toNat (0 : Nat)).el
 (↑i_1 : Int).toNat
 ((0 : Nat) + (1 : Nat) + (1 : Nat))).toI ∧
 ((ta.el (↑i : Int).toNat (0 : Nat)).el
 (↑i_1 : Int).toNat
 ((0 : Nat) + (1 : Nat) + (1 : Nat) +
 (1 : Nat))).toB =
 ((ta.el (↑i : Int).toNat (0 : Nat)).el
 (↑i_1 : Int).toNat
 ((0 : Nat) + (1 : Nat) + (1 : Nat) +
 (1 : Nat))).toB ∧
 (∀ (o : Nat),
 o < (49 : Nat) →
 ((ta.el (↑i : Int).toNat (0 : Nat)).el
 (↑i_1 : Int).toNat
 ((0 : Nat) + (1 : Nat) +
 (1 : Nat) +
 (1 : Nat) +
 (1 : Nat) +
 o)).toI =
 ((ta.el (↑i : Int).toNat (0 : Nat)).el
 (↑i_1 : Int).toNat
 ((0 : Nat) + (1 : Nat) +
 (1 : Nat) +
 (1 : Nat) +
 (1 : Nat) +
 o)).toI) ∧
 ((ta.el (↑i : Int).toNat (0 : Nat)).el
 (↑i_1 : Int).toNat
 ((0 : Nat) + (1 : Nat) + (1 : Nat) +
 (1 : Nat) +
 (1 : Nat) +
 (49 : Nat))).rows =
 ((ta.el (↑i : Int).toNat (0 : Nat)).el
 (↑i_1 : Int).toNat
 ((0 : Nat) + (1 : Nat) + (1 : Nat) +
 (1 : Nat) +
 (1 : Nat) +
 (49 : Nat))).rows ∧
 ((ta.el (↑i : Int).toNat (0 : Nat)).el
 (↑i_1 : Int).toNat
 ((0 : Nat) + (1 : Nat) + (1 : Nat) +
 (1 : Nat) +
 (1 : Nat) +
 (49 : Nat) +
 (1 : Nat))).rows =
 ((ta.el (↑i : Int).toNat (0 : Nat)).el
 (↑i_1 : Int).toNat
 ((0 : Nat) + (1 : Nat) + (1 : Nat) +
 (1 : Nat) +
 (1 : Nat) +
 (49 : Nat) +
 (1 : Nat))).rows)) ∧
 (decide
 ((↑i_2 : Int) <
 (↑((ta.el (↑i : Int).toNat (0 : Nat)).el (↑i_1 : Int).toNat
 ((0 : Nat) + (1 : Nat))).len :
 Int)) =
 false →
 (↑((mkB (t2B st ta i i_1 ++ ndB (ta.el i (0 : Nat)) i_1 i_2)).size +
 (ByteArray.mk #[(10 : UInt8)]).size) :
 Int) ≤
 IntKind.i64.max ∧
 ∃ (j : Nat),
 (j ≤ (ta.el i (0 : Nat)).len ∧ True) ∧
 (1001 : Nat) - j < (1001 : Nat) - i_1 ∧
 IntKind.i64.wrap ((↑i_1 : Int) + (1 : Int)) = (↑j : Int) ∧
 Value.string
 (mkB (t2B st ta i i_1 ++ ndB (ta.el i (0 : Nat)) i_1 i_2) ++
 (ByteArray.mk #[(10 : UInt8)])) =
 Value.string (mkB (t2B st ta i j)) ∧
 Value.string (ByteArray.mk #[]) = Value.string (ByteArray.mk #[]) ∧
 (↑i : Int) = (↑i : Int) ∧
 ta.rows = ta.rows ∧ le.rows = le.rows ∧ la.rows = la.rows ∧ st = st)))) ∧
 (decide ((↑i_1 : Int) < (↑(ta.el (↑i : Int).toNat (0 : Nat)).len : Int)) = false →
 ∃ (j : Nat),
 j.le ta.len ∧
 ta.len - j < ta.len - i ∧
 IntKind.i64.wrap ((↑i : Int) + (1 : Int)) = (↑j : Int) ∧
 Value.string (mkB (t2B st ta i i_1)) = Value.string (mkB (t1B st ta j)) ∧
 Value.string (ByteArray.mk #[]) = Value.string (ByteArray.mk #[]) ∧
 ta.rows = ta.rows ∧ le.rows = le.rows ∧ la.rows = la.rows ∧ st = st)) ∧
 (decide ((↑i : Int) < (↑ta.len : Int)) = false →
 (∃ (i_1 : Nat),
 i_1.le le.len ∧
 (0 : Int) = (↑i_1 : Int) ∧
 Value.string (mkB (t1B st ta i)) = Value.string (mkB (t3B st ta le i_1)) ∧
 Value.string (ByteArray.mk #[]) = Value.string (ByteArray.mk #[]) ∧ ta.rows = ta.rows ∧ le.rows = le.rows ∧ la.rows = la.rows ∧ st = st) ∧
 ∀ (i : Nat),
 i.le le.len →
 (decide ((↑i : Int) < (↑le.len : Int)) = true →
 ((0 : Int) ≤ (↑i : Int) ∧ (↑i : Int) < (↑le.len : Int)) ∧
 (↑((mkB (t3B st ta le i)).size +
 (ByteArray.mk #[(99 : UInt8), (104 : UInt8), (97 : UInt8), (110 : UInt8), (110 : UInt8), (101 : UInt8), (108 : UInt8),
 (32 : UInt8)]).size) :
 Int) ≤
 IntKind.i64.max ∧
 nI (↑i : Int) ∧
 (↑((mkB (t3B st ta le i) ++
 (ByteArray.mk #[(99 : UInt8), (104 : UInt8), (97 : UInt8), (110 : UInt8), (110 : UInt8), (101 : UInt8), (108 : UInt8),
 (32 : UInt8)])).size +
 (itW (↑i : Int)).size) :
 Int) ≤
 IntKind.i64.max ∧
 (↑((mkB (t3B st ta le i) ++
 (ByteArray.mk #[(99 : UInt8), (104 : UInt8), (97 : UInt8), (110 : UInt8), (110 : UInt8), (101 : UInt8), (108 : UInt8),
 (32 : UInt8)]) ++
 itW (↑i : Int)).size +
 (ByteArray.mk #[(58 : UInt8), (32 : UInt8)]).size) :
 Int) ≤
 IntKind.i64.max ∧
 nI (le.el (↑i : Int).toNat (0 : Nat)).toI ∧
 nI (le.el (↑i : Int).toNat ((0 : Nat) + (1 : Nat))).toI ∧
 (↑((mkB (t3B st ta le i) ++
 (ByteArray.mk #[(99 : UInt8), (104 : UInt8), (97 : UInt8), (110 : UInt8), (110 : UInt8), (101 : UInt8),
 (108 : UInt8), (32 : UInt8)]) ++
 itW (↑i : Int) ++
 (ByteArray.mk #[(58 : UInt8), (32 : UInt8)])).size +
 (itT (le.el (↑i : Int).toNat (0 : Nat)).toI (le.el (↑i : Int).toNat ((0 : Nat) + (1 : Nat))).toI).size) :
 Int) ≤
 IntKind.i64.max ∧
 (↑((mkB (t3B st ta le i) ++
 (ByteArray.mk #[(99 : UInt8), (104 : UInt8), (97 : UInt8), (110 : UInt8), (110 : UInt8), (101 : UInt8),
 (108 : UInt8), (32 : UInt8)]) ++
 itW (↑i : Int) ++
 (ByteArray.mk #[(58 : UInt8), (32 : UInt8)]) ++
 itT (le.el (↑i : Int).toNat (0 : Nat)).toI
 (le.el (↑i : Int).toNat ((0 : Nat) + (1 : Nat))).toI).size +
 (ByteArray.mk #[(32 : UInt8), (109 : UInt8), (101 : UInt8), (115 : UInt8), (115 : UInt8), (97 : UInt8),
 (103 : UInt8), (101 : UInt8), (115 : UInt8)]).size) :
 Int) ≤
 IntKind.i64.max ∧
 (∃ (i_1 : Nat),
 (i_1 ≤ (le.el i (2 : Nat)).len ∧ True) ∧
 (0 : Int) = (↑i_1 : Int) ∧
 Value.string
 (mkB (t3B st ta le i) ++
 (ByteArray.mk #[(99 : UInt8), (104 : UInt8), (97 : UInt8), (110 : UInt8), (110 : UInt8),
 (101 : UInt8), (108 : UInt8), (32 : UInt8)]) ++
 itW (↑i : Int) ++
 (ByteArray.mk #[(58 : UInt8), (32 : UInt8)]) ++
 itT (le.el (↑i : Int).toNat (0 : Nat)).toI
 (le.el (↑i : Int).toNat ((0 : Nat) + (1 : Nat))).toI ++
 (ByteArray.mk #[(32 : UInt8), (109 : UInt8), (101 : UInt8), (115 : UInt8), (115 : UInt8), (97 : UInt8),
 (103 : UInt8), (101 : UInt8), (115 : UInt8)])) =
 Value.string (mkB (t3B st ta le i ++ hcB le i ++ tcB (le.el i (2 : Nat)) i_1)) ∧
 Value.string (ByteArray.mk #[]) = Value.string (ByteArray.mk #[]) ∧
 (↑i : Int) = (↑i : Int) ∧
 ta.rows = ta.rows ∧
 le.rows = le.rows ∧
 la.rows = la.rows ∧
 st = st ∧
 (le.el (↑i : Int).toNat (0 : Nat)).toI = (le.el (↑i : Int).toNat (0 : Nat)).toI ∧
 (le.el (↑i : Int).toNat ((0 : Nat) + (1 : Nat))).toI =
 (le.el (↑i : Int).toNat ((0 : Nat) + (1 : Nat))).toI ∧
 (le.el (↑i : Int).toNat ((0 : Nat) + (1 : Nat) + (1 : Nat))).rows =
 (le.el (↑i : Int).toNat ((0 : Nat) + (1 : Nat) + (1 : Nat))).rows) ∧
 ∀ (i_1 : Nat),
 i_1 ≤ (le.el i (2 : Nat)).len ∧ True →
 (decide ((↑i_1 : Int) < (↑(le.el (↑i : Int).toNat ((0 : Nat) + (1 : Nat) + (1 : Nat))).len : Int)) = true →
 ((0 : Int) ≤ (↑i_1 : Int) ∧
 (↑i_1 : Int) < (↑(le.el (↑i : Int).toNat ((0 : Nat) + (1 : Nat) + (1 : Nat))).len : Int)) ∧
 ((0 : Int) ≤ (↑i_1 : Int) ∧
 (↑i_1 : Int) < (↑(le.el (↑i : Int).toNat ((0 : Nat) + (1 : Nat) + (1 : Nat))).len : Int)) ∧
 (decide
 (((le.el (↑i : Int).toNat ((0 : Nat) + (1 : Nat) + (1 : Nat))).el (↑i_1 : Int).toNat
 ((0 : Nat) + (0 : Nat))).toI ≤
 ((le.el (↑i : Int).toNat ((0 : Nat) + (1 : Nat) + (1 : Nat))).el (↑i_1 : Int).toNat
 ((0 : Nat) + (1 : Nat))).toI) =
 true →
 (↑((mkB (t3B st ta le i ++ hcB le i ++ tcB (le.el i (2 : Nat)) i_1)).size +
 (ByteArray.mk #[(44 : UInt8), (32 : UInt8), (116 : UInt8), (97 : UInt8), (103 : UInt8),
 (32 : UInt8)]).size) :
 Int) ≤
 IntKind.i64.max ∧
 nI (↑i_1 : Int) ∧
 (↑((mkB (t3B st ta le i ++ hcB le i ++ tcB (le.el i (2 : Nat)) i_1) ++
 (ByteArray.mk #[(44 : UInt8), (32 : UInt8), (116 : UInt8), (97 : UInt8), (103 : UInt8),
 (32 : UInt8)])).size +
 (itW (↑i_1 : Int)).size) :
 Int) ≤
 IntKind.i64.max ∧
 (↑((mkB (t3B st ta le i ++ hcB le i ++ tcB (le.el i (2 : Nat)) i_1) ++
 (ByteArray.mk #[(44 : UInt8), (32 : UInt8), (116 : UInt8), (97 : UInt8),
 (103 : UInt8), (32 : UInt8)]) ++
 itW (↑i_1 : Int)).size +
 (ByteArray.mk #[(58 : UInt8), (32 : UInt8)]).size) :
 Int) ≤
 IntKind.i64.max ∧
 ((0 : Int) ≤ (↑i_1 : Int) ∧
 (↑i_1 : Int) <
 (↑(le.el (↑i : Int).toNat ((0 : Nat) + (1 : Nat) + (1 : Nat))).len : Int)) ∧
 ((0 : Int) ≤ (↑i_1 : Int) ∧
 (↑i_1 : Int) <
 (↑(le.el (↑i : Int).toNat ((0 : Nat) + (1 : Nat) + (1 : Nat))).len : Int)) ∧
 nI
 ((le.el (↑i : Int).toNat ((0 : Nat) + (1 : Nat) + (1 : Nat))).el
 (↑i_1 : Int).toNat ((0 : Nat) + (0 : Nat))).toI ∧
 nI
 ((le.el (↑i : Int).toNat ((0 : Nat) + (1 : Nat) + (1 : Nat))).el
 (↑i_1 : Int).toNat ((0 : Nat) + (1 : Nat))).toI ∧
 (↑((mkB (t3B st ta le i ++ hcB le i ++ tcB (le.el i (2 : Nat)) i_1) ++
 (ByteArray.mk #[(44 : UInt8), (32 : UInt8), (116 : UInt8), (97 : UInt8),
 (103 : UInt8), (32 : UInt8)]) ++
 itW (↑i_1 : Int) ++
 (ByteArray.mk #[(58 : UInt8), (32 : UInt8)])).size +
 (itT
 ((le.el (↑i : Int).toNat ((0 : Nat) + (1 : Nat) + (1 : Nat))).el
 (↑i_1 : Int).toNat ((0 : Nat) + (0 : Nat))).toI
 ((le.el (↑i : Int).toNat ((0 : Nat) + (1 : Nat) + (1 : Nat))).el
 (↑i_1 : Int).toNat ((0 : Nat) + (1 : Nat))).toI).size) :
 Int) ≤
 IntKind.i64.max ∧
 ∃ (j : Nat),
 (j ≤ (le.el i (2 : Nat)).len ∧ True) ∧
 (1001 : Nat) - j < (1001 : Nat) - i_1 ∧
 IntKind.i64.wrap ((↑i_1 : Int) + (1 : Int)) = (↑j : Int) ∧
 Value.string
 (mkB
 (t3B st ta le i ++ hcB le i ++
 tcB (le.el i (2 : Nat)) i_1) ++
 (ByteArray.mk #[(44 : UInt8), (32 : UInt8), (116 : UInt8),
 (97 : UInt8), (103 : UInt8), (32 : UInt8)]) ++
 itW (↑i_1 : Int) ++
 (ByteArray.mk #[(58 : UInt8), (32 : UInt8)]) ++
 itT
 ((le.el (↑i : Int).toNat
 ((0 : Nat) + (1 : Nat) + (1 : Nat))).el
 (↑i_1 : Int).toNat ((0 : Nat) + (0 : Nat))).toI
 ((le.el (↑i : Int).toNat
 ((0 : Nat) + (1 : Nat) + (1 : Nat))).el
 (↑i_1 : Int).toNat ((0 : Nat) + (1 : Nat))).toI) =
 Value.string
 (mkB
 (t3B st ta le i ++ hcB le i ++ tcB (le.el i (2 : Nat)) j)) ∧
 Value.string (ByteArray.mk #[]) = Value.string (ByteArray.mk #[]) ∧
 (↑i : Int) = (↑i : Int) ∧
 ta.rows = ta.rows ∧
 le.rows = le.rows ∧
 la.rows = la.rows ∧
 st = st ∧
 (le.el (↑i : Int).toNat (0 : Nat)).toI =
 (le.el (↑i : Int).toNat (0 : Nat)).toI ∧
 (le.el (↑i : Int).toNat ((0 : Nat) + (1 : Nat))).toI =
 (le.el (↑i : Int).toNat
 ((0 : Nat) + (1 : Nat))).toI ∧
 (le.el (↑i : Int).toNat
 ((0 : Nat) + (1 : Nat) + (1 : Nat))).rows =
 (le.el (↑i : Int).toNat
 ((0 : Nat) + (1 : Nat) + (1 : Nat))).rows) ∧
 (decide
 (((le.el (↑i : Int).toNat ((0 : Nat) + (1 : Nat) + (1 : Nat))).el (↑i_1 : Int).toNat
 ((0 : Nat) + (0 : Nat))).toI ≤
 ((le.el (↑i : Int).toNat ((0 : Nat) + (1 : Nat) + (1 : Nat))).el (↑i_1 : Int).toNat
 ((0 : Nat) + (1 : Nat))).toI) =
 false →
 ∃ (j : Nat),
 (j ≤ (le.el i (2 : Nat)).len ∧ True) ∧
 (1001 : Nat) - j < (1001 : Nat) - i_1 ∧
 IntKind.i64.wrap ((↑i_1 : Int) + (1 : Int)) = (↑j : Int) ∧
 Value.string (mkB (t3B st ta le i ++ hcB le i ++ tcB (le.el i (2 : Nat)) i_1)) =
 Value.string (mkB (t3B st ta le i ++ hcB le i ++ tcB (le.el i (2 : Nat)) j)) ∧
 Value.string (ByteArray.mk #[]) = Value.string (ByteArray.mk #[]) ∧
 (↑i : Int) = (↑i : Int) ∧
 ta.rows = ta.rows ∧
 le.rows = le.rows ∧
 la.rows = la.rows ∧
 st = st ∧
 (le.el (↑i : Int).toNat (0 : Nat)).toI =
 (le.el (↑i : Int).toNat (0 : Nat)).toI ∧
 (le.el (↑i : Int).toNat ((0 : Nat) + (1 : Nat))).toI =
 (le.el (↑i : Int).toNat ((0 : Nat) + (1 : Nat))).toI ∧
 (le.el (↑i : Int).toNat ((0 : Nat) + (1 : Nat) + (1 : Nat))).rows =
 (le.el (↑i : Int).toNat
 ((0 : Nat) + (1 : Nat) + (1 : Nat))).rows)) ∧
 (decide ((↑i_1 : Int) < (↑(le.el (↑i : Int).toNat ((0 : Nat) + (1 : Nat) + (1 : Nat))).len : Int)) =
 false →
 (↑((mkB (t3B st ta le i ++ hcB le i ++ tcB (le.el i (2 : Nat)) i_1)).size +
 (ByteArray.mk #[(10 : UInt8)]).size) :
 Int) ≤
 IntKind.i64.max ∧
 ∃ (j : Nat),
 j.le le.len ∧
 le.len - j < le.len - i ∧
 IntKind.i64.wrap ((↑i : Int) + (1 : Int)) = (↑j : Int) ∧
 Value.string
 (mkB (t3B st ta le i ++ hcB le i ++ tcB (le.el i (2 : Nat)) i_1) ++
 (ByteArray.mk #[(10 : UInt8)])) =
 Value.string (mkB (t3B st ta le j)) ∧
 Value.string (ByteArray.mk #[]) = Value.string (ByteArray.mk #[]) ∧
 ta.rows = ta.rows ∧ le.rows = le.rows ∧ la.rows = la.rows ∧ st = st)) ∧
 (decide ((↑i : Int) < (↑le.len : Int)) = false →
 (∃ (i_1 : Nat),
 i_1.le la.len ∧
 (0 : Int) = (↑i_1 : Int) ∧
 Value.string (mkB (t3B st ta le i)) = Value.string (mkB (t4B st ta le la i_1)) ∧
 Value.string (ByteArray.mk #[]) = Value.string (ByteArray.mk #[]) ∧
 ta.rows = ta.rows ∧ le.rows = le.rows ∧ la.rows = la.rows ∧ st = st) ∧
 ∀ (i : Nat),
 i.le la.len →
 (decide ((↑i : Int) < (↑la.len : Int)) = true →
 ((0 : Int) ≤ (↑i : Int) ∧ (↑i : Int) < (↑la.len : Int)) ∧
 ((0 : Int) ≤ (↑i : Int) ∧ (↑i : Int) < (↑la.len : Int)) ∧
 ((0 : Int) ≤ (↑i : Int) ∧ (↑i : Int) < (↑la.len : Int)) ∧
 nI (la.el (↑i : Int).toNat ((0 : Nat) + (0 : Nat))).toI ∧
 nI (la.el (↑i : Int).toNat ((0 : Nat) + (1 : Nat))).toI ∧
 nI (la.el (↑i : Int).toNat ((0 : Nat) + (2 : Nat))).toI ∧
 (↑((mkB (t4B st ta le la i)).size +
 (alT (la.el (↑i : Int).toNat ((0 : Nat) + (0 : Nat))).toI
 (la.el (↑i : Int).toNat ((0 : Nat) + (1 : Nat))).toI
 (la.el (↑i : Int).toNat ((0 : Nat) + (2 : Nat))).toI).size) :
 Int) ≤
 IntKind.i64.max ∧
 (↑((mkB (t4B st ta le la i) ++
 alT (la.el (↑i : Int).toNat ((0 : Nat) + (0 : Nat))).toI
 (la.el (↑i : Int).toNat ((0 : Nat) + (1 : Nat))).toI
 (la.el (↑i : Int).toNat ((0 : Nat) + (2 : Nat))).toI).size +
 (ByteArray.mk #[(10 : UInt8)]).size) :
 Int) ≤
 IntKind.i64.max ∧
 ∃ (j : Nat),
 j.le la.len ∧
 la.len - j < la.len - i ∧
 IntKind.i64.wrap ((↑i : Int) + (1 : Int)) = (↑j : Int) ∧
 Value.string
 (mkB (t4B st ta le la i) ++
 alT (la.el (↑i : Int).toNat ((0 : Nat) + (0 : Nat))).toI
 (la.el (↑i : Int).toNat ((0 : Nat) + (1 : Nat))).toI
 (la.el (↑i : Int).toNat ((0 : Nat) + (2 : Nat))).toI ++
 (ByteArray.mk #[(10 : UInt8)])) =
 Value.string (mkB (t4B st ta le la j)) ∧
 Value.string (ByteArray.mk #[]) = Value.string (ByteArray.mk #[]) ∧
 ta.rows = ta.rows ∧ le.rows = le.rows ∧ la.rows = la.rows ∧ st = st) ∧
 (decide ((↑i : Int) < (↑la.len : Int)) = false →
 (((↑la.len : Int) == (0 : Int)) = true →
 (↑((mkB (t4B st ta le la i)).size +
 (ByteArray.mk #[(110 : UInt8), (111 : UInt8), (32 : UInt8), (97 : UInt8), (108 : UInt8), (97 : UInt8),
 (114 : UInt8), (109 : UInt8), (10 : UInt8)]).size) :
 Int) ≤
 IntKind.i64.max ∧
 Value.string
 (mkB (t4B st ta le la i) ++
 (ByteArray.mk #[(110 : UInt8), (111 : UInt8), (32 : UInt8), (97 : UInt8), (108 : UInt8), (97 : UInt8), (114 : UInt8),
 (109 : UInt8), (10 : UInt8)])) =
 Value.string (teT st ta le la)) ∧
 (((↑la.len : Int) == (0 : Int)) = false →
 nI (↑la.len : Int) ∧
 (↑((mkB (t4B st ta le la i)).size + (itW (↑la.len : Int)).size) : Int) ≤ IntKind.i64.max ∧
 (↑((mkB (t4B st ta le la i) ++ itW (↑la.len : Int)).size +
 (ByteArray.mk #[(32 : UInt8), (97 : UInt8), (108 : UInt8), (97 : UInt8), (114 : UInt8), (109 : UInt8),
 (115 : UInt8), (10 : UInt8)]).size) :
 Int) ≤
 IntKind.i64.max ∧
 Value.string
 (mkB (t4B st ta le la i) ++ itW (↑la.len : Int) ++
 (ByteArray.mk #[(32 : UInt8), (97 : UInt8), (108 : UInt8), (97 : UInt8), (114 : UInt8), (109 : UInt8),
 (115 : UInt8), (10 : UInt8)])) =
 Value.string (teT st ta le la)))))) (by kernel_rfl) ?_
    intro hd
    simp only [Int.toNat_natCast, Nat.zero_add, Nat.add_zero, Nat.reduceAdd, and_true, true_and, implies_true]
    have h0 := t0B_len hd.st
    have a1 := hd.at1
    have e1 := hd.el1
    have l1 := hd.al1
    have zst := itZ hd.st
    have zz0 : (ByteArray.mk #[115, 116, 101, 112, 115, 32]).size = 6 := rfl
    have zz1 : (ByteArray.mk #[10]).size = 1 := rfl
    have zz2 : (ByteArray.mk #[112, 114, 111, 99, 101, 115, 115, 32]).size = 8 := rfl
    have zz3 : (ByteArray.mk #[110, 111, 100, 101, 32]).size = 5 := rfl
    have zz4 : (ByteArray.mk #[58, 32]).size = 2 := rfl
    have zz5 : (ByteArray.mk #[110, 101, 118, 101, 114, 10]).size = 6 := rfl
    have zz6 : (ByteArray.mk #[110, 111, 116, 104, 105, 110, 103]).size = 7 := rfl
    have zz7 : (ByteArray.mk #[44, 32]).size = 2 := rfl
    have zz8 : (ByteArray.mk #[99, 104, 97, 110, 110, 101, 108, 32]).size = 8 := rfl
    have zz9 : (ByteArray.mk #[32, 109, 101, 115, 115, 97, 103, 101, 115]).size = 9 := rfl
    have zz10 : (ByteArray.mk #[44, 32, 116, 97, 103, 32]).size = 6 := rfl
    have zz11 : (ByteArray.mk #[110, 111, 32, 97, 108, 97, 114, 109, 10]).size = 9 := rfl
    have zz12 : (ByteArray.mk #[32, 97, 108, 97, 114, 109, 115, 10]).size = 8 := rfl
    refine ⟨hd.st, (by refine mxx ?_; (try simp only [ba_size, mkB_size, List.length_append]); omega), (by refine mxx ?_; (try simp only [ba_size, mkB_size, List.length_append]); omega), ⟨0, Nat.zero_le _, rfl, E_0 st ta⟩, fun p hp => ⟨fun hc => ?_, fun hc => ?_⟩⟩
    · have hc : p < ta.len := by simpa using hc
      have hA := hd.at2 p hc
      have hA1 := hA.1
      have b1 := t1B_len hd (p := p) (by omega)
      have zp := itZ (nN (i := p) (by omega))
      have ep := inc hc a1
      refine ⟨(by refine mxx ?_; (try simp only [ba_size, mkB_size, List.length_append]); omega), nN (by omega), (by refine mxx ?_; (try simp only [ba_size, mkB_size, List.length_append]); omega), (by refine mxx ?_; (try simp only [ba_size, mkB_size, List.length_append]); omega), ⟨0, Nat.zero_le _, rfl, congrArg Value.string (by simp only [mkB_ap]; exact congrArg mkB (E_hd st ta p))⟩, fun n hn => ⟨⟨by omega, by omega⟩, fun hc2 => ?_, fun hc2 => ?_⟩⟩
      · have hc2 : n < (ta.el p 0).len := by simpa using hc2
        have hI := hA.2 n hc2
        have hI1 := hI.1
        have c1 := t2B_len hd hc (n := n) (by omega)
        have zn := itZ (nN (i := n) (by omega))
        have en := inc hc2 hA.1
        refine ⟨⟨by omega, by omega⟩, ⟨by omega, by omega⟩, (by refine mxx ?_; (try simp only [ba_size, mkB_size, List.length_append]); omega), nN (by omega), (by refine mxx ?_; (try simp only [ba_size, mkB_size, List.length_append]); omega), (by refine mxx ?_; (try simp only [ba_size, mkB_size, List.length_append]); omega), fun hT => ?_, fun hT => ⟨fun h0 => ?_, fun h0 => ?_⟩⟩
        · (repeat' (with_reducible apply And.intro)) <;> first | with_reducible assumption | omega | (refine Nat.le_of_lt_succ ?_; omega) | exact nN (by omega) | (refine mxx ?_; (try simp only [ba_size, mkB_size, List.length_append]); omega) | (refine congrArg Value.string ?_; simp only [mkB_ap]; exact congrArg mkB (E_never hT)) | (refine ⟨n + 1, ?_⟩; (repeat' (with_reducible apply And.intro)) <;> first | with_reducible assumption | omega | (refine Nat.le_of_lt_succ ?_; omega) | exact nN (by omega) | (refine mxx ?_; (try simp only [ba_size, mkB_size, List.length_append]); omega) | (refine congrArg Value.string ?_; simp only [mkB_ap]; exact congrArg mkB (E_never hT)))
        · have h0 : ((ta.el p 0).el n 1).len = 0 := by simpa using h0
          refine ⟨(by refine mxx ?_; (try simp only [ba_size, mkB_size, List.length_append]); omega), ?_⟩
          refine ⟨⟨0, Nat.zero_le _, rfl, congrArg Value.string (by simp only [mkB_ap]; exact congrArg mkB (E_noth h0))⟩, fun v hv => ⟨fun hc3 => ?_, fun hc3 => ?_⟩⟩
          · have hc3 : v < ((ta.el p 0).el n 1).len := by simpa using hc3
            obtain ⟨q1, q2⟩ := hI.2 v hc3
            have zt := itT_size q1 q2
            have zv := ndB_len (v := v) hI (by omega) (by omega)
            have ev := inc hc3 hI.1
            refine ⟨fun hv0 => ?_, fun hv0 => ?_⟩
            · have hv0 : v > 0 := by simpa using hv0
              (repeat' (with_reducible apply And.intro)) <;> first | with_reducible assumption | omega | (refine Nat.le_of_lt_succ ?_; omega) | exact nN (by omega) | (refine mxx ?_; (try simp only [ba_size, mkB_size, List.length_append]); omega) | (refine congrArg Value.string ?_; simp only [mkB_ap]; exact congrArg mkB (E_v1 _ _ _ hv0)) | (refine ⟨v + 1, ?_⟩; (repeat' (with_reducible apply And.intro)) <;> first | with_reducible assumption | omega | (refine Nat.le_of_lt_succ ?_; omega) | exact nN (by omega) | (refine mxx ?_; (try simp only [ba_size, mkB_size, List.length_append]); omega) | (refine congrArg Value.string ?_; simp only [mkB_ap]; exact congrArg mkB (E_v1 _ _ _ hv0)))
            · have hv0 : ¬ v > 0 := by simpa using hv0
              (repeat' (with_reducible apply And.intro)) <;> first | with_reducible assumption | omega | (refine Nat.le_of_lt_succ ?_; omega) | exact nN (by omega) | (refine mxx ?_; (try simp only [ba_size, mkB_size, List.length_append]); omega) | (refine congrArg Value.string ?_; simp only [mkB_ap]; exact congrArg mkB (E_v0 _ _ _ hv0)) | (refine ⟨v + 1, ?_⟩; (repeat' (with_reducible apply And.intro)) <;> first | with_reducible assumption | omega | (refine Nat.le_of_lt_succ ?_; omega) | exact nN (by omega) | (refine mxx ?_; (try simp only [ba_size, mkB_size, List.length_append]); omega) | (refine congrArg Value.string ?_; simp only [mkB_ap]; exact congrArg mkB (E_v0 _ _ _ hv0)))
          · have hc3 : ¬ v < ((ta.el p 0).el n 1).len := by simpa using hc3
            obtain rfl : v = ((ta.el p 0).el n 1).len := by omega
            have zv := ndB_len hI (by omega) (Nat.le_refl _)
            (repeat' (with_reducible apply And.intro)) <;> first | with_reducible assumption | omega | (refine Nat.le_of_lt_succ ?_; omega) | exact nN (by omega) | (refine mxx ?_; (try simp only [ba_size, mkB_size, List.length_append]); omega) | (refine congrArg Value.string ?_; simp only [mkB_ap]; exact congrArg mkB (E_nend hT)) | (refine ⟨n + 1, ?_⟩; (repeat' (with_reducible apply And.intro)) <;> first | with_reducible assumption | omega | (refine Nat.le_of_lt_succ ?_; omega) | exact nN (by omega) | (refine mxx ?_; (try simp only [ba_size, mkB_size, List.length_append]); omega) | (refine congrArg Value.string ?_; simp only [mkB_ap]; exact congrArg mkB (E_nend hT)))
        · have h0 : ((ta.el p 0).el n 1).len ≠ 0 := by simpa using h0
          refine ⟨⟨0, Nat.zero_le _, rfl, congrArg Value.string (by simp only [mkB_ap]; exact congrArg mkB (E_some h0))⟩, fun v hv => ⟨fun hc3 => ?_, fun hc3 => ?_⟩⟩
          · have hc3 : v < ((ta.el p 0).el n 1).len := by simpa using hc3
            obtain ⟨q1, q2⟩ := hI.2 v hc3
            have zt := itT_size q1 q2
            have zv := ndB_len (v := v) hI (by omega) (by omega)
            have ev := inc hc3 hI.1
            refine ⟨fun hv0 => ?_, fun hv0 => ?_⟩
            · have hv0 : v > 0 := by simpa using hv0
              (repeat' (with_reducible apply And.intro)) <;> first | with_reducible assumption | omega | (refine Nat.le_of_lt_succ ?_; omega) | exact nN (by omega) | (refine mxx ?_; (try simp only [ba_size, mkB_size, List.length_append]); omega) | (refine congrArg Value.string ?_; simp only [mkB_ap]; exact congrArg mkB (E_v1 _ _ _ hv0)) | (refine ⟨v + 1, ?_⟩; (repeat' (with_reducible apply And.intro)) <;> first | with_reducible assumption | omega | (refine Nat.le_of_lt_succ ?_; omega) | exact nN (by omega) | (refine mxx ?_; (try simp only [ba_size, mkB_size, List.length_append]); omega) | (refine congrArg Value.string ?_; simp only [mkB_ap]; exact congrArg mkB (E_v1 _ _ _ hv0)))
            · have hv0 : ¬ v > 0 := by simpa using hv0
              (repeat' (with_reducible apply And.intro)) <;> first | with_reducible assumption | omega | (refine Nat.le_of_lt_succ ?_; omega) | exact nN (by omega) | (refine mxx ?_; (try simp only [ba_size, mkB_size, List.length_append]); omega) | (refine congrArg Value.string ?_; simp only [mkB_ap]; exact congrArg mkB (E_v0 _ _ _ hv0)) | (refine ⟨v + 1, ?_⟩; (repeat' (with_reducible apply And.intro)) <;> first | with_reducible assumption | omega | (refine Nat.le_of_lt_succ ?_; omega) | exact nN (by omega) | (refine mxx ?_; (try simp only [ba_size, mkB_size, List.length_append]); omega) | (refine congrArg Value.string ?_; simp only [mkB_ap]; exact congrArg mkB (E_v0 _ _ _ hv0)))
          · have hc3 : ¬ v < ((ta.el p 0).el n 1).len := by simpa using hc3
            obtain rfl : v = ((ta.el p 0).el n 1).len := by omega
            have zv := ndB_len hI (by omega) (Nat.le_refl _)
            (repeat' (with_reducible apply And.intro)) <;> first | with_reducible assumption | omega | (refine Nat.le_of_lt_succ ?_; omega) | exact nN (by omega) | (refine mxx ?_; (try simp only [ba_size, mkB_size, List.length_append]); omega) | (refine congrArg Value.string ?_; simp only [mkB_ap]; exact congrArg mkB (E_nend hT)) | (refine ⟨n + 1, ?_⟩; (repeat' (with_reducible apply And.intro)) <;> first | with_reducible assumption | omega | (refine Nat.le_of_lt_succ ?_; omega) | exact nN (by omega) | (refine mxx ?_; (try simp only [ba_size, mkB_size, List.length_append]); omega) | (refine congrArg Value.string ?_; simp only [mkB_ap]; exact congrArg mkB (E_nend hT)))
      · have hc2 : ¬ n < (ta.el p 0).len := by simpa using hc2
        obtain rfl : n = (ta.el p 0).len := by omega
        exact ⟨p + 1, hc, by omega, ep, by rw [t1B_succ]⟩
    · have hp : p ≤ ta.len := hp
      have hc : ¬ p < ta.len := by simpa using hc
      obtain rfl : p = ta.len := by omega
      refine ⟨⟨0, Nat.zero_le _, rfl, congrArg (fun l => Value.string (mkB l)) (List.append_nil _).symm⟩, fun c hcc => ⟨fun hc2 => ?_, fun hc2 => ?_⟩⟩
      · have hc2 : c < le.len := by simpa using hc2
        obtain ⟨r1, r2, hI⟩ := hd.el2 c hc2
        have c1 := t3B_len hd (c := c) (by omega)
        have zc := itZ (nN (i := c) (by omega))
        have zt := itT_size r1 r2
        have zh := hcB_len (c := c) (by omega) ⟨r1, r2⟩
        have ec := inc hc2 e1
        have hI1 := hI.1
        refine ⟨⟨by omega, by omega⟩, (by refine mxx ?_; (try simp only [ba_size, mkB_size, List.length_append]); omega), nN (by omega), (by refine mxx ?_; (try simp only [ba_size, mkB_size, List.length_append]); omega), (by refine mxx ?_; (try simp only [ba_size, mkB_size, List.length_append]); omega), r1, r2, (by refine mxx ?_; (try simp only [ba_size, mkB_size, List.length_append]); omega), (by refine mxx ?_; (try simp only [ba_size, mkB_size, List.length_append]); omega), ⟨0, Nat.zero_le _, rfl, congrArg Value.string (by simp only [mkB_ap]; exact congrArg mkB (E_ch _ le c))⟩, fun t ht => ⟨fun hc3 => ?_, fun hc3 => ?_⟩⟩
        · have hc3 : t < (le.el c 2).len := by simpa using hc3
          obtain ⟨q1, q2⟩ := hI.2 t hc3
          have zq := itT_size q1 q2
          have zv := tcB_len hI (t := t) (by omega)
          have zn := itZ (nN (i := t) (by omega))
          have ev := inc hc3 hI1
          refine ⟨⟨by omega, by omega⟩, ⟨by omega, by omega⟩, fun hv0 => ?_, fun hv0 => ?_⟩
          · have hv0 := of_decide_eq_true hv0
            (repeat' (with_reducible apply And.intro)) <;> first | with_reducible assumption | omega | (refine Nat.le_of_lt_succ ?_; omega) | exact nN (by omega) | (refine mxx ?_; (try simp only [ba_size, mkB_size, List.length_append]); omega) | (refine congrArg Value.string ?_; simp only [mkB_ap]; exact congrArg mkB (E_tag _ _ hv0)) | (refine ⟨t + 1, ?_⟩; (repeat' (with_reducible apply And.intro)) <;> first | with_reducible assumption | omega | (refine Nat.le_of_lt_succ ?_; omega) | exact nN (by omega) | (refine mxx ?_; (try simp only [ba_size, mkB_size, List.length_append]); omega) | (refine congrArg Value.string ?_; simp only [mkB_ap]; exact congrArg mkB (E_tag _ _ hv0)))
          · have hv0 := of_decide_eq_false hv0
            exact ⟨t + 1, by omega, by omega, ev, congrArg (fun l => Value.string (mkB l)) (E_tag0 _ _ hv0)⟩
        · have hc3 : ¬ t < (le.el c 2).len := by simpa using hc3
          obtain rfl : t = (le.el c 2).len := by omega
          have zv := tcB_len hI (Nat.le_refl _)
          (repeat' (with_reducible apply And.intro)) <;> first | with_reducible assumption | omega | (refine Nat.le_of_lt_succ ?_; omega) | exact nN (by omega) | (refine mxx ?_; (try simp only [ba_size, mkB_size, List.length_append]); omega) | (refine congrArg Value.string ?_; simp only [mkB_ap]; exact congrArg mkB (E_cend st ta le c)) | (refine ⟨c + 1, ?_⟩; (repeat' (with_reducible apply And.intro)) <;> first | with_reducible assumption | omega | (refine Nat.le_of_lt_succ ?_; omega) | exact nN (by omega) | (refine mxx ?_; (try simp only [ba_size, mkB_size, List.length_append]); omega) | (refine congrArg Value.string ?_; simp only [mkB_ap]; exact congrArg mkB (E_cend st ta le c)))
      · have hcc : c ≤ le.len := hcc
        have hc2 : ¬ c < le.len := by simpa using hc2
        obtain rfl : c = le.len := by omega
        refine ⟨⟨0, Nat.zero_le _, rfl, congrArg (fun l => Value.string (mkB l)) (List.append_nil _).symm⟩, fun i hi => ⟨fun hc3 => ?_, fun hc3 => ?_⟩⟩
        · have hc3 : i < la.len := by simpa using hc3
          obtain ⟨r1, r2, r3⟩ := hd.al2 i hc3
          have c1 := t4B_len hd (c := i) (by omega)
          have za := alT_size (k := (la.el i 2).toI) r1 r2
          have ei := inc hc3 l1
          (repeat' (with_reducible apply And.intro)) <;> first | with_reducible assumption | omega | (refine Nat.le_of_lt_succ ?_; omega) | exact nN (by omega) | (refine mxx ?_; (try simp only [ba_size, mkB_size, List.length_append]); omega) | (refine congrArg Value.string ?_; simp only [mkB_ap]; exact congrArg mkB (E_al st ta le la i)) | (refine ⟨i + 1, ?_⟩; (repeat' (with_reducible apply And.intro)) <;> first | with_reducible assumption | omega | (refine Nat.le_of_lt_succ ?_; omega) | exact nN (by omega) | (refine mxx ?_; (try simp only [ba_size, mkB_size, List.length_append]); omega) | (refine congrArg Value.string ?_; simp only [mkB_ap]; exact congrArg mkB (E_al st ta le la i)))
        · have hi : i ≤ la.len := hi
          have hc3 : ¬ i < la.len := by simpa using hc3
          obtain rfl : i = la.len := by omega
          have c1 := t4B_len hd (Nat.le_refl la.len)
          have zl := itZ (nN (i := la.len) (by omega))
          refine ⟨fun hz => ?_, fun hz => ?_⟩
          · have hz : la.len = 0 := by simpa using hz
            (repeat' (with_reducible apply And.intro)) <;> first | with_reducible assumption | omega | (refine Nat.le_of_lt_succ ?_; omega) | exact nN (by omega) | (refine mxx ?_; (try simp only [ba_size, mkB_size, List.length_append]); omega) | (refine congrArg Value.string ?_; simp only [mkB_ap]; exact congrArg mkB (E_e0 st ta le la hz)) | (refine ⟨0, ?_⟩; (repeat' (with_reducible apply And.intro)) <;> first | with_reducible assumption | omega | (refine Nat.le_of_lt_succ ?_; omega) | exact nN (by omega) | (refine mxx ?_; (try simp only [ba_size, mkB_size, List.length_append]); omega) | (refine congrArg Value.string ?_; simp only [mkB_ap]; exact congrArg mkB (E_e0 st ta le la hz)))
          · have hz : la.len ≠ 0 := by simpa using hz
            (repeat' (with_reducible apply And.intro)) <;> first | with_reducible assumption | omega | (refine Nat.le_of_lt_succ ?_; omega) | exact nN (by omega) | (refine mxx ?_; (try simp only [ba_size, mkB_size, List.length_append]); omega) | (refine congrArg Value.string ?_; simp only [mkB_ap]; exact congrArg mkB (E_e1 st ta le la hz)) | (refine ⟨0, ?_⟩; (repeat' (with_reducible apply And.intro)) <;> first | with_reducible assumption | omega | (refine Nat.le_of_lt_succ ?_; omega) | exact nN (by omega) | (refine mxx ?_; (try simp only [ba_size, mkB_size, List.length_append]); omega) | (refine congrArg Value.string ?_; simp only [mkB_ap]; exact congrArg mkB (E_e1 st ta le la hz)))
  · trivial
end Go.Proofs.YtomodncooiddaaaDoor.Sx.Z
