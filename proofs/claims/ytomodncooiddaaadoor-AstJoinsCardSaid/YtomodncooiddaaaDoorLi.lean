/-
  ast: the words of expressions.
-/
import Derived.Test.YtomodncooiddaaaDoorLh
namespace Go.Proofs.YtomodncooiddaaaDoor.Sx.Z
open Go.RowKit
def chW (k : Int) : ByteArray := if k = 0 then ⟨#[98, 108, 111, 99, 107]⟩ else if k = 1 then ⟨#[100, 114, 111, 112]⟩ else ⟨#[108, 111, 115, 115, 121]⟩
def biW (k : Int) : ByteArray := if k = 4 then ⟨#[43]⟩ else if k = 5 then ⟨#[45]⟩ else if k = 6 then ⟨#[42]⟩ else if k = 7 then ⟨#[47]⟩ else ⟨#[37]⟩
def cmW (k : Int) : ByteArray := if k = 1 then ⟨#[61, 61]⟩ else if k = 2 then ⟨#[33, 61]⟩ else if k = 3 then ⟨#[60]⟩ else if k = 4 then ⟨#[60, 61]⟩ else if k = 5 then ⟨#[62]⟩ else ⟨#[62, 61]⟩
/-- In ( and ), or not. -/
def par (b : Bool) (l : List ByteArray) : List ByteArray := if b = true then ⟨#[40]⟩ :: (l ++ [⟨#[41]⟩]) else l
def xWb (k n : Int) (s : ByteArray) (q : Nat → Int) (f : Nat → List ByteArray) : List ByteArray :=
  if k = 1 then [itW n] else if k = 2 then [s] else if k = 3 then ⟨#[45]⟩ :: par (brB 3 0 (q 0)) (f 0) else if biB k = true then par (brB k 0 (q 0)) (f 0) ++ (biW k :: par (brB k 1 (q 1)) (f 1)) else []
def kW (d : D) (i : Nat) : List ByteArray := if h : i < d.len then xWb (d.el i 0).toI (d.el i 1).toI (d.el i 2).toS (fun j => ((d.el i 3).el j 0).toI) (fun j => kW (d.el i 3) j) else []
  termination_by SizeOf.sizeOf d
  decreasing_by exact lel_lt h
def xW (k n : Int) (s : ByteArray) (d : D) : List ByteArray := xWb k n s (fun j => (d.el j 0).toI) (kW d)
theorem kW_eq {d : D} {i : Nat} (h : i < d.len) : kW d i = xW (d.el i 0).toI (d.el i 1).toI (d.el i 2).toS (d.el i 3) := by
  rw [kW, dif_pos h]; rfl
/-- What can be written: small numbers, no name too long, as many parts as there must be. -/
def xFb (k n : Int) (s : ByteArray) (len : Nat) (f : Nat → Prop) : Prop := (k = 1 → nI n) ∧ (k = 2 → s.size ≤ 1000000000) ∧ (k = 3 → len = 1 ∧ f 0) ∧ (biB k = true → len = 2 ∧ f 0 ∧ f 1)
def kF (d : D) (i : Nat) : Prop := if h : i < d.len then xFb (d.el i 0).toI (d.el i 1).toI (d.el i 2).toS (d.el i 3).len (fun j => kF (d.el i 3) j) else True
  termination_by SizeOf.sizeOf d
  decreasing_by exact lel_lt h
def xF (k n : Int) (s : ByteArray) (d : D) : Prop := xFb k n s d.len (kF d)
theorem kF_eq {d : D} {i : Nat} (h : i < d.len) : kF d i = xF (d.el i 0).toI (d.el i 1).toI (d.el i 2).toS (d.el i 3) := by
  rw [kF, dif_pos h]; rfl
def wsR (l : List ByteArray) : D := .l (l.map sR)
theorem wsR_len (l : List ByteArray) : (wsR l).len = l.length := List.length_map ..
theorem wsR_el {l : List ByteArray} {j : Nat} (h : j < l.length) : ((wsR l).el j 0).toS = l[j] := by
  show ((((l.map sR).getD j []).getD 0 (.i 0))).toS = _
  rw [List.getD_eq_getElem?_getD (l := l.map sR), List.getElem?_map, List.getElem?_eq_getElem h]; rfl
theorem put_eq (w : D) (l : List ByteArray) : putD w (wsR l) = cat w l := by
  unfold putD
  congr 1
  rw [wsR_len]
  unfold wsL
  apply List.ext_getElem
  · rw [List.length_map, List.length_range]
  · intro i h1 h2
    rw [List.getElem_map, List.getElem_range, wsR_el h2]
theorem wsR_ok {l : List ByteArray} (h : ∀ a ∈ l, a.size ≤ 281474976710656) : ∀ j, j < (wsR l).len → ((wsR l).el j 0).toS.size ≤ 281474976710656 := fun j hj => by
  rw [wsR_len] at hj
  rw [wsR_el hj]
  exact h _ (List.getElem_mem hj)
theorem put1 (w : D) (a : ByteArray) : putD w (.l [[D.s a]]) = cat w [a] := put_eq w [a]
theorem ok1 {a : ByteArray} (h : a.size ≤ 281474976710656) : ∀ j, j < (D.l [[D.s a]]).len → ((D.l [[D.s a]]).el j 0).toS.size ≤ 281474976710656 := wsR_ok (l := [a]) (by simpa using h)
theorem put1s (w : D) (a : ByteArray) : putD w ((D.l [[D.s a]]).sub 0 (0 + 1)) = cat w [a] := put_eq w [a]
theorem eqD {a b : D} (h : a = b) : a.len = b.len ∧ a.rows = b.rows := by rw [h]; exact ⟨rfl, rfl⟩
theorem cat_nil {w : D} (h : w.len ≤ 2001) : w.len = (cat w []).len ∧ w.rows = (cat w []).rows := by
  constructor
  · rw [cat_len]
    show w.len = min 2001 (w.len + 0)
    omega
  · show w.rows = List.take 2001 (w.rows ++ [])
    rw [List.append_nil, List.take_of_length_le (show w.len ≤ 2001 from h)]
theorem itW_size {n : Int} (h : nI n) : (itW n).size ≤ 21 := Lib.itoa_length_le n h.1 h.2
theorem biW_size (k : Int) : (biW k).size ≤ 2 := by
  unfold biW
  (repeat' split) <;> decide
theorem cmW_size (k : Int) : (cmW k).size ≤ 2 := by
  unfold cmW
  (repeat' split) <;> decide
theorem chW_size (k : Int) : (chW k).size ≤ 5 := by
  unfold chW
  (repeat' split) <;> decide
noncomputable def chwS : FSpec := fun ds _ => match ds with
  | [.i k] => some { val := .one (.sc (.raw (.string (chW k)))), vc := [] }
  | _ => none
noncomputable def chwC : Con := con [lI] chwS
theorem chw_ok : ConOK Tryd.prog 70 chwC := by
  refine fn_ob tt_ok mixed Tryd.func70 rfl (fun _ _ => by kernel_rfl) (A := fun ds => ⟨fun _ => Cons.of [], fun _ => none, fun _ => none⟩) (fun _ _ => cons_nil) (by kernel_rfl) ?_
  intro ds fr
  unfold chwS
  split
  · rename_i k
    refine kmp (q := ((k == (0 : Int)) = true → Value.string { data := #[(98 : UInt8), (108 : UInt8), (111 : UInt8), (99 : UInt8), (107 : UInt8)] } = Value.string (chW k)) ∧
 ((k == (0 : Int)) = false →
 ((k == (1 : Int)) = true → Value.string { data := #[(100 : UInt8), (114 : UInt8), (111 : UInt8), (112 : UInt8)] } = Value.string (chW k)) ∧
 ((k == (1 : Int)) = false → Value.string { data := #[(108 : UInt8), (111 : UInt8), (115 : UInt8), (115 : UInt8), (121 : UInt8)] } = Value.string (chW k)))) (by kernel_rfl) ?_
    refine ⟨fun h => ?_, fun n1 => ⟨fun h => ?_, fun n2 => ?_⟩⟩
    iterate 2 (obtain rfl := eq_of_beq h; rfl)
    unfold chW
    rw [if_neg (ne_of_beq_false n1), if_neg (ne_of_beq_false n2)]
  · trivial
noncomputable def biwS : FSpec := fun ds _ => match ds with
  | [.i k] => some { val := .one (.sc (.raw (.string (biW k)))), vc := [] }
  | _ => none
noncomputable def biwC : Con := con [lI] biwS
theorem biw_ok : ConOK Tryd.prog 101 biwC := by
  refine fn_ob tt_ok mixed Tryd.func101 rfl (fun _ _ => by kernel_rfl) (A := fun ds => ⟨fun _ => Cons.of [], fun _ => none, fun _ => none⟩) (fun _ _ => cons_nil) (by kernel_rfl) ?_
  intro ds fr
  unfold biwS
  split
  · rename_i k
    refine kmp (q := ((k == (4 : Int)) = true → Value.string { data := #[(43 : UInt8)] } = Value.string (biW k)) ∧
 ((k == (4 : Int)) = false →
 ((k == (5 : Int)) = true → Value.string { data := #[(45 : UInt8)] } = Value.string (biW k)) ∧
 ((k == (5 : Int)) = false →
 ((k == (6 : Int)) = true → Value.string { data := #[(42 : UInt8)] } = Value.string (biW k)) ∧
 ((k == (6 : Int)) = false →
 ((k == (7 : Int)) = true → Value.string { data := #[(47 : UInt8)] } = Value.string (biW k)) ∧
 ((k == (7 : Int)) = false → Value.string { data := #[(37 : UInt8)] } = Value.string (biW k)))))) (by kernel_rfl) ?_
    refine ⟨fun h => ?_, fun n1 => ⟨fun h => ?_, fun n2 => ⟨fun h => ?_, fun n3 => ⟨fun h => ?_, fun n4 => ?_⟩⟩⟩⟩
    iterate 4 (obtain rfl := eq_of_beq h; rfl)
    unfold biW
    rw [if_neg (ne_of_beq_false n1), if_neg (ne_of_beq_false n2), if_neg (ne_of_beq_false n3), if_neg (ne_of_beq_false n4)]
  · trivial
noncomputable def cmwS : FSpec := fun ds _ => match ds with
  | [.i k] => some { val := .one (.sc (.raw (.string (cmW k)))), vc := [] }
  | _ => none
noncomputable def cmwC : Con := con [lI] cmwS
theorem cmw_ok : ConOK Tryd.prog 102 cmwC := by
  refine fn_ob tt_ok mixed Tryd.func102 rfl (fun _ _ => by kernel_rfl) (A := fun ds => ⟨fun _ => Cons.of [], fun _ => none, fun _ => none⟩) (fun _ _ => cons_nil) (by kernel_rfl) ?_
  intro ds fr
  unfold cmwS
  split
  · rename_i k
    refine kmp (q := ((k == (1 : Int)) = true → Value.string { data := #[(61 : UInt8), (61 : UInt8)] } = Value.string (cmW k)) ∧
 ((k == (1 : Int)) = false →
 ((k == (2 : Int)) = true → Value.string { data := #[(33 : UInt8), (61 : UInt8)] } = Value.string (cmW k)) ∧
 ((k == (2 : Int)) = false →
 ((k == (3 : Int)) = true → Value.string { data := #[(60 : UInt8)] } = Value.string (cmW k)) ∧
 ((k == (3 : Int)) = false →
 ((k == (4 : Int)) = true → Value.string { data := #[(60 : UInt8), (61 : UInt8)] } = Value.string (cmW k)) ∧
 ((k == (4 : Int)) = false →
 ((k == (5 : Int)) = true → Value.string { data := #[(62 : UInt8)] } = Value.string (cmW k)) ∧
 ((k == (5 : Int)) = false → Value.string { data := #[(62 : UInt8), (61 : UInt8)] } = Value.string (cmW k))))))) (by kernel_rfl) ?_
    refine ⟨fun h => ?_, fun n1 => ⟨fun h => ?_, fun n2 => ⟨fun h => ?_, fun n3 => ⟨fun h => ?_, fun n4 => ⟨fun h => ?_, fun n5 => ?_⟩⟩⟩⟩⟩
    iterate 5 (obtain rfl := eq_of_beq h; rfl)
    unfold cmW
    rw [if_neg (ne_of_beq_false n1), if_neg (ne_of_beq_false n2), if_neg (ne_of_beq_false n3), if_neg (ne_of_beq_false n4), if_neg (ne_of_beq_false n5)]
  · trivial
noncomputable def xwrS : List Dat → Option (Eff × List Seg) := fun ds => match ds with
  | [.d w, .i k, .i n, .s s, .d d] => some ({ val := .tup [], vc := [xF k n s d, w.len ≤ 2001], nw := [(0, .orow 9 (cat w (xW k n s d)))] }, [.c (.osl 9 0 (.lit 0) (.sym (cat w (xW k n s d)).len))])
  | _ => none
noncomputable def xwrC : Con := conM 106 [.own 9] [lX] xwrS
noncomputable def xwrM : List Dat → Nat := fun ds => match ds with
  | [.d w, .i k, .i n, .s s, .d d] => SizeOf.sizeOf d
  | _ => 0
noncomputable def xwrSu (m : Nat) : List Dat → Option (Eff × List Seg) := fun ds => match ds with
  | [.d w, .i k, .i n, .s s, .d d] => some ({ val := .tup [], vc := [SizeOf.sizeOf d < m, xF k n s d, w.len ≤ 2001], nw := [(0, .orow 9 (cat w (xW k n s d)))] }, [.c (.osl 9 0 (.lit 0) (.sym (cat w (xW k n s d)).len))])
  | _ => none
theorem xwr_under (m : Nat) : underM xwrS xwrM m = xwrSu m := by
  funext ds
  unfold underM xwrS xwrM xwrSu
  split
  · rename_i e sg h
    split at h
    · obtain ⟨rfl, rfl⟩ := Prod.mk.inj (Option.some.inj h); rfl
    · cases h
  · rename_i h
    split at h
    · cases h
    · rfl
noncomputable def kwrS (m : Nat) : List Dat → Option (Eff × List Seg) := fun ds => match ds with
  | [.d w, .i k, .i n, .s s, .d d, .i i] => some ({ val := .tup [], vc := [SizeOf.sizeOf d < m + 1, 0 ≤ i ∧ i < d.len, kF d i.toNat, w.len ≤ 2001], nw := [(0, .orow 9 (cat w (par (brB k i (d.el i.toNat 0).toI) (kW d i.toNat))))] }, [.c (.osl 9 0 (.lit 0) (.sym (cat w (par (brB k i (d.el i.toNat 0).toI) (kW d i.toNat))).len))])
  | _ => none
noncomputable def kwrC (m : Nat) : Con := conM 106 [.own 9] [lX, lI] (kwrS m)
theorem kwr_ok {m : Nat} (ih : ConOK Tryd.prog 90 (conM 106 [.own 9] [lX] (xwrSu m))) : ConOK Tryd.prog 100 (kwrC m) := by
  refine fn_obM tt_ok mixed Tryd.func100 rfl (fun _ _ => by kernel_rfl) (A := fun ds => ⟨fun _ => Cons.of [(69, putC), (99, brrC), (90, conM 106 [.own 9] [lX] (xwrSu m))], fun _ => none, fun _ => none⟩) (fun _ _ => (cons_cons put_ok (cons_cons brr_ok (cons_cons ih cons_nil)))) (by kernel_rfl) ?_
  intro ds
  unfold kwrS
  split
  · rename_i w k n s d i
    refine kmp (q := SizeOf.sizeOf d < m + (1 : Nat) →
 (0 : Int) ≤ i ∧ i < (↑d.len : Int) →
 kF d i.toNat →
 w.len ≤ (2001 : Nat) →
 ((0 : Int) ≤ i ∧ i < (↑d.len : Int)) ∧
 ((!brB k i (d.el i.toNat (0 : Nat)).toI) = true →
 ((0 : Int) ≤ i ∧ i < (↑d.len : Int)) ∧
 (0 : Nat) = (0 : Nat) ∧
 w.len = w.len ∧
 SizeOf.sizeOf (d.el i.toNat ((0 : Nat) + (1 : Nat) + (1 : Nat) + (1 : Nat))) < m ∧
 xF (d.el i.toNat (0 : Nat)).toI (d.el i.toNat ((0 : Nat) + (1 : Nat))).toI (d.el i.toNat ((0 : Nat) + (1 : Nat) + (1 : Nat))).toS
 (d.el i.toNat ((0 : Nat) + (1 : Nat) + (1 : Nat) + (1 : Nat))) ∧
 w.len ≤ (2001 : Nat) ∧
 (cat w
 (xW (d.el i.toNat (0 : Nat)).toI (d.el i.toNat ((0 : Nat) + (1 : Nat))).toI
 (d.el i.toNat ((0 : Nat) + (1 : Nat) + (1 : Nat))).toS
 (d.el i.toNat ((0 : Nat) + (1 : Nat) + (1 : Nat) + (1 : Nat))))).len =
 (cat w (par (brB k i (d.el i.toNat (0 : Nat)).toI) (kW d i.toNat))).len ∧
 List.take (2001 : Nat)
 (w.rows ++
 List.map sR
 (xW (d.el i.toNat (0 : Nat)).toI (d.el i.toNat ((0 : Nat) + (1 : Nat))).toI
 (d.el i.toNat ((0 : Nat) + (1 : Nat) + (1 : Nat))).toS (d.el i.toNat ((0 : Nat) + (1 : Nat) + (1 : Nat) + (1 : Nat))))) =
 List.take (2001 : Nat) (w.rows ++ List.map sR (par (brB k i (d.el i.toNat (0 : Nat)).toI) (kW d i.toNat)))) ∧
 ((!brB k i (d.el i.toNat (0 : Nat)).toI) = false →
 (0 : Nat) = (0 : Nat) ∧
 w.len = w.len ∧
 (0 : Nat) + (1 : Nat) ≤ (D.l [[D.s { data := #[(40 : UInt8)] }]]).len ∧
 w.len ≤ (2001 : Nat) ∧
 ((D.l [[D.s { data := #[(40 : UInt8)] }]]).sub (0 : Nat) ((0 : Nat) + (1 : Nat))).len ≤ (1000 : Nat) ∧
 (∀ (j : Nat),
 j < ((D.l [[D.s { data := #[(40 : UInt8)] }]]).sub (0 : Nat) ((0 : Nat) + (1 : Nat))).len →
 (((D.l [[D.s { data := #[(40 : UInt8)] }]]).sub (0 : Nat) ((0 : Nat) + (1 : Nat))).el j (0 : Nat)).toS.size ≤
 (281474976710656 : Nat)) ∧
 ((0 : Int) ≤ i ∧ i < (↑d.len : Int)) ∧
 (0 : Nat) = (0 : Nat) ∧
 (putD w ((D.l [[D.s { data := #[(40 : UInt8)] }]]).sub (0 : Nat) ((0 : Nat) + (1 : Nat)))).len =
 (putD w ((D.l [[D.s { data := #[(40 : UInt8)] }]]).sub (0 : Nat) ((0 : Nat) + (1 : Nat)))).len ∧
 SizeOf.sizeOf (d.el i.toNat ((0 : Nat) + (1 : Nat) + (1 : Nat) + (1 : Nat))) < m ∧
 xF (d.el i.toNat (0 : Nat)).toI (d.el i.toNat ((0 : Nat) + (1 : Nat))).toI
 (d.el i.toNat ((0 : Nat) + (1 : Nat) + (1 : Nat))).toS (d.el i.toNat ((0 : Nat) + (1 : Nat) + (1 : Nat) + (1 : Nat))) ∧
 (putD w ((D.l [[D.s { data := #[(40 : UInt8)] }]]).sub (0 : Nat) ((0 : Nat) + (1 : Nat)))).len ≤ (2001 : Nat) ∧
 (0 : Nat) = (0 : Nat) ∧
 (cat (putD w ((D.l [[D.s { data := #[(40 : UInt8)] }]]).sub (0 : Nat) ((0 : Nat) + (1 : Nat))))
 (xW (d.el i.toNat (0 : Nat)).toI (d.el i.toNat ((0 : Nat) + (1 : Nat))).toI
 (d.el i.toNat ((0 : Nat) + (1 : Nat) + (1 : Nat))).toS
 (d.el i.toNat ((0 : Nat) + (1 : Nat) + (1 : Nat) + (1 : Nat))))).len =
 (cat (putD w ((D.l [[D.s { data := #[(40 : UInt8)] }]]).sub (0 : Nat) ((0 : Nat) + (1 : Nat))))
 (xW (d.el i.toNat (0 : Nat)).toI (d.el i.toNat ((0 : Nat) + (1 : Nat))).toI
 (d.el i.toNat ((0 : Nat) + (1 : Nat) + (1 : Nat))).toS
 (d.el i.toNat ((0 : Nat) + (1 : Nat) + (1 : Nat) + (1 : Nat))))).len ∧
 (0 : Nat) + (1 : Nat) ≤ (D.l [[D.s { data := #[(41 : UInt8)] }]]).len ∧
 (cat (putD w ((D.l [[D.s { data := #[(40 : UInt8)] }]]).sub (0 : Nat) ((0 : Nat) + (1 : Nat))))
 (xW (d.el i.toNat (0 : Nat)).toI (d.el i.toNat ((0 : Nat) + (1 : Nat))).toI
 (d.el i.toNat ((0 : Nat) + (1 : Nat) + (1 : Nat))).toS
 (d.el i.toNat ((0 : Nat) + (1 : Nat) + (1 : Nat) + (1 : Nat))))).len ≤
 (2001 : Nat) ∧
 ((D.l [[D.s { data := #[(41 : UInt8)] }]]).sub (0 : Nat) ((0 : Nat) + (1 : Nat))).len ≤ (1000 : Nat) ∧
 (∀ (j : Nat),
 j < ((D.l [[D.s { data := #[(41 : UInt8)] }]]).sub (0 : Nat) ((0 : Nat) + (1 : Nat))).len →
 (((D.l [[D.s { data := #[(41 : UInt8)] }]]).sub (0 : Nat) ((0 : Nat) + (1 : Nat))).el j
 (0 : Nat)).toS.size ≤
 (281474976710656 : Nat)) ∧
 (putD
 (cat (putD w ((D.l [[D.s { data := #[(40 : UInt8)] }]]).sub (0 : Nat) ((0 : Nat) + (1 : Nat))))
 (xW (d.el i.toNat (0 : Nat)).toI (d.el i.toNat ((0 : Nat) + (1 : Nat))).toI
 (d.el i.toNat ((0 : Nat) + (1 : Nat) + (1 : Nat))).toS
 (d.el i.toNat ((0 : Nat) + (1 : Nat) + (1 : Nat) + (1 : Nat)))))
 ((D.l [[D.s { data := #[(41 : UInt8)] }]]).sub (0 : Nat) ((0 : Nat) + (1 : Nat)))).len =
 (cat w (par (brB k i (d.el i.toNat (0 : Nat)).toI) (kW d i.toNat))).len ∧
 List.take (2001 : Nat)
 (List.take (2001 : Nat)
 (List.take (2001 : Nat)
 (w.rows ++
 List.map sR
 (wsL ((D.l [[D.s { data := #[(40 : UInt8)] }]]).sub (0 : Nat) ((0 : Nat) + (1 : Nat)))
 ((D.l [[D.s { data := #[(40 : UInt8)] }]]).sub (0 : Nat) ((0 : Nat) + (1 : Nat))).len)) ++
 List.map sR
 (xW (d.el i.toNat (0 : Nat)).toI (d.el i.toNat ((0 : Nat) + (1 : Nat))).toI
 (d.el i.toNat ((0 : Nat) + (1 : Nat) + (1 : Nat))).toS
 (d.el i.toNat ((0 : Nat) + (1 : Nat) + (1 : Nat) + (1 : Nat))))) ++
 List.map sR
 (wsL ((D.l [[D.s { data := #[(41 : UInt8)] }]]).sub (0 : Nat) ((0 : Nat) + (1 : Nat)))
 ((D.l [[D.s { data := #[(41 : UInt8)] }]]).sub (0 : Nat) ((0 : Nat) + (1 : Nat))).len)) =
 List.take (2001 : Nat)
 (w.rows ++ List.map sR (par (brB k i (d.el i.toNat (0 : Nat)).toI) (kW d i.toNat))))) (by kernel_rfl) ?_
    intro hm hi hk hw
    have o1 : (1 : Nat) ≤ 1000 := by decide
    have hl : i.toNat < d.len := by omega
    have z : SizeOf.sizeOf (d.el i.toNat (0 + 1 + 1 + 1)) < m := by have := lel_lt (j := 3) hl; show SizeOf.sizeOf (d.el i.toNat 3) < m; omega
    have hk2 := hk
    rw [kF_eq hl] at hk2
    have ek := kW_eq hl
    refine ⟨hi, fun hb => ⟨hi, rfl, rfl, z, hk2, hw, eqD ?_⟩, fun hb => ⟨rfl, rfl, Nat.le_refl _, hw, o1, ok1 (by decide), hi, rfl, rfl, z, hk2, cat_le _ _, rfl, rfl, Nat.le_refl _, cat_le _ _, o1, ok1 (by decide), eqD ?_⟩⟩
    · rw [Bool.not_eq_true'] at hb
      rw [hb, ek]; rfl
    · rw [Bool.not_eq_false'] at hb
      rw [put1s, cat_cat, put1s, cat_cat, hb, ek]; rfl
  · trivial
theorem xwr_step (m : Nat) (ih : ConOK Tryd.prog 90 (conM 106 [.own 9] [lX] (xwrSu m))) : ConOK Tryd.prog 90 (conM 106 [.own 9] [lX] (xwrSu (m + 1))) := by
  refine fn_obM tt_ok mixed Tryd.func90 rfl (fun _ _ => by kernel_rfl) (A := fun ds => ⟨fun _ => Cons.of [(69, putC), (35, itC), (88, isbinC), (101, biwC), (100, (kwrC m))], fun _ => none, fun _ => none⟩) (fun _ _ => (cons_cons put_ok (cons_cons it_ok (cons_cons isbin_ok (cons_cons biw_ok (cons_cons (kwr_ok ih) cons_nil)))))) (by kernel_rfl) ?_
  intro ds
  unfold xwrSu
  split
  · rename_i w k n s d
    refine kmp (q := SizeOf.sizeOf d < m + (1 : Nat) →
 xF k n s d →
 w.len ≤ (2001 : Nat) →
 ((k == (1 : Int)) = true →
 nI n ∧
 (0 : Nat) = (0 : Nat) ∧
 w.len = w.len ∧
 (0 : Nat) + (1 : Nat) ≤ (D.l [[D.s (itW n)]]).len ∧
 w.len ≤ (2001 : Nat) ∧
 ((D.l [[D.s (itW n)]]).sub (0 : Nat) ((0 : Nat) + (1 : Nat))).len ≤ (1000 : Nat) ∧
 (∀ (j : Nat),
 j < ((D.l [[D.s (itW n)]]).sub (0 : Nat) ((0 : Nat) + (1 : Nat))).len →
 (((D.l [[D.s (itW n)]]).sub (0 : Nat) ((0 : Nat) + (1 : Nat))).el j (0 : Nat)).toS.size ≤ (281474976710656 : Nat)) ∧
 (putD w ((D.l [[D.s (itW n)]]).sub (0 : Nat) ((0 : Nat) + (1 : Nat)))).len = (cat w (xW k n s d)).len ∧
 List.take (2001 : Nat)
 (w.rows ++
 List.map sR
 (wsL ((D.l [[D.s (itW n)]]).sub (0 : Nat) ((0 : Nat) + (1 : Nat)))
 ((D.l [[D.s (itW n)]]).sub (0 : Nat) ((0 : Nat) + (1 : Nat))).len)) =
 List.take (2001 : Nat) (w.rows ++ List.map sR (xW k n s d))) ∧
 ((k == (1 : Int)) = false →
 ((k == (2 : Int)) = true →
 (0 : Nat) = (0 : Nat) ∧
 w.len = w.len ∧
 (0 : Nat) + (1 : Nat) ≤ (D.l [[D.s s]]).len ∧
 w.len ≤ (2001 : Nat) ∧
 ((D.l [[D.s s]]).sub (0 : Nat) ((0 : Nat) + (1 : Nat))).len ≤ (1000 : Nat) ∧
 (∀ (j : Nat),
 j < ((D.l [[D.s s]]).sub (0 : Nat) ((0 : Nat) + (1 : Nat))).len →
 (((D.l [[D.s s]]).sub (0 : Nat) ((0 : Nat) + (1 : Nat))).el j (0 : Nat)).toS.size ≤ (281474976710656 : Nat)) ∧
 (putD w ((D.l [[D.s s]]).sub (0 : Nat) ((0 : Nat) + (1 : Nat)))).len = (cat w (xW k n s d)).len ∧
 List.take (2001 : Nat)
 (w.rows ++
 List.map sR
 (wsL ((D.l [[D.s s]]).sub (0 : Nat) ((0 : Nat) + (1 : Nat))) ((D.l [[D.s s]]).sub (0 : Nat) ((0 : Nat) + (1 : Nat))).len)) =
 List.take (2001 : Nat) (w.rows ++ List.map sR (xW k n s d))) ∧
 ((k == (2 : Int)) = false →
 ((k == (3 : Int)) = true →
 (0 : Nat) = (0 : Nat) ∧
 w.len = w.len ∧
 (0 : Nat) + (1 : Nat) ≤ (D.l [[D.s { data := #[(45 : UInt8)] }]]).len ∧
 w.len ≤ (2001 : Nat) ∧
 ((D.l [[D.s { data := #[(45 : UInt8)] }]]).sub (0 : Nat) ((0 : Nat) + (1 : Nat))).len ≤ (1000 : Nat) ∧
 (∀ (j : Nat),
 j < ((D.l [[D.s { data := #[(45 : UInt8)] }]]).sub (0 : Nat) ((0 : Nat) + (1 : Nat))).len →
 (((D.l [[D.s { data := #[(45 : UInt8)] }]]).sub (0 : Nat) ((0 : Nat) + (1 : Nat))).el j (0 : Nat)).toS.size ≤
 (281474976710656 : Nat)) ∧
 (0 : Nat) = (0 : Nat) ∧
 (putD w ((D.l [[D.s { data := #[(45 : UInt8)] }]]).sub (0 : Nat) ((0 : Nat) + (1 : Nat)))).len =
 (putD w ((D.l [[D.s { data := #[(45 : UInt8)] }]]).sub (0 : Nat) ((0 : Nat) + (1 : Nat)))).len ∧
 SizeOf.sizeOf d < m + (1 : Nat) ∧
 ((0 : Int) ≤ (0 : Int) ∧ (0 : Int) < (↑d.len : Int)) ∧
 kF d (Int.toNat (0 : Int)) ∧
 (putD w ((D.l [[D.s { data := #[(45 : UInt8)] }]]).sub (0 : Nat) ((0 : Nat) + (1 : Nat)))).len ≤ (2001 : Nat) ∧
 (cat (putD w ((D.l [[D.s { data := #[(45 : UInt8)] }]]).sub (0 : Nat) ((0 : Nat) + (1 : Nat))))
 (par (brB k (0 : Int) (d.el (Int.toNat (0 : Int)) (0 : Nat)).toI) (kW d (Int.toNat (0 : Int))))).len =
 (cat w (xW k n s d)).len ∧
 List.take (2001 : Nat)
 (List.take (2001 : Nat)
 (w.rows ++
 List.map sR
 (wsL ((D.l [[D.s { data := #[(45 : UInt8)] }]]).sub (0 : Nat) ((0 : Nat) + (1 : Nat)))
 ((D.l [[D.s { data := #[(45 : UInt8)] }]]).sub (0 : Nat) ((0 : Nat) + (1 : Nat))).len)) ++
 List.map sR (par (brB k (0 : Int) (d.el (Int.toNat (0 : Int)) (0 : Nat)).toI) (kW d (Int.toNat (0 : Int))))) =
 List.take (2001 : Nat) (w.rows ++ List.map sR (xW k n s d))) ∧
 ((k == (3 : Int)) = false →
 (biB k = true →
 (0 : Nat) = (0 : Nat) ∧
 w.len = w.len ∧
 SizeOf.sizeOf d < m + (1 : Nat) ∧
 ((0 : Int) ≤ (0 : Int) ∧ (0 : Int) < (↑d.len : Int)) ∧
 kF d (Int.toNat (0 : Int)) ∧
 w.len ≤ (2001 : Nat) ∧
 (0 : Nat) = (0 : Nat) ∧
 (cat w (par (brB k (0 : Int) (d.el (Int.toNat (0 : Int)) (0 : Nat)).toI) (kW d (Int.toNat (0 : Int))))).len =
 (cat w (par (brB k (0 : Int) (d.el (Int.toNat (0 : Int)) (0 : Nat)).toI) (kW d (Int.toNat (0 : Int))))).len ∧
 (0 : Nat) + (1 : Nat) ≤ (D.l [[D.s (biW k)]]).len ∧
 (cat w (par (brB k (0 : Int) (d.el (Int.toNat (0 : Int)) (0 : Nat)).toI) (kW d (Int.toNat (0 : Int))))).len ≤
 (2001 : Nat) ∧
 ((D.l [[D.s (biW k)]]).sub (0 : Nat) ((0 : Nat) + (1 : Nat))).len ≤ (1000 : Nat) ∧
 (∀ (j : Nat),
 j < ((D.l [[D.s (biW k)]]).sub (0 : Nat) ((0 : Nat) + (1 : Nat))).len →
 (((D.l [[D.s (biW k)]]).sub (0 : Nat) ((0 : Nat) + (1 : Nat))).el j (0 : Nat)).toS.size ≤
 (281474976710656 : Nat)) ∧
 (0 : Nat) = (0 : Nat) ∧
 (putD (cat w (par (brB k (0 : Int) (d.el (Int.toNat (0 : Int)) (0 : Nat)).toI) (kW d (Int.toNat (0 : Int)))))
 ((D.l [[D.s (biW k)]]).sub (0 : Nat) ((0 : Nat) + (1 : Nat)))).len =
 (putD
 (cat w (par (brB k (0 : Int) (d.el (Int.toNat (0 : Int)) (0 : Nat)).toI) (kW d (Int.toNat (0 : Int)))))
 ((D.l [[D.s (biW k)]]).sub (0 : Nat) ((0 : Nat) + (1 : Nat)))).len ∧
 SizeOf.sizeOf d < m + (1 : Nat) ∧
 ((0 : Int) ≤ (1 : Int) ∧ (1 : Int) < (↑d.len : Int)) ∧
 kF d (Int.toNat (1 : Int)) ∧
 (putD
 (cat w
 (par (brB k (0 : Int) (d.el (Int.toNat (0 : Int)) (0 : Nat)).toI)
 (kW d (Int.toNat (0 : Int)))))
 ((D.l [[D.s (biW k)]]).sub (0 : Nat) ((0 : Nat) + (1 : Nat)))).len ≤
 (2001 : Nat) ∧
 (cat
 (putD
 (cat w
 (par (brB k (0 : Int) (d.el (Int.toNat (0 : Int)) (0 : Nat)).toI)
 (kW d (Int.toNat (0 : Int)))))
 ((D.l [[D.s (biW k)]]).sub (0 : Nat) ((0 : Nat) + (1 : Nat))))
 (par (brB k (1 : Int) (d.el (Int.toNat (1 : Int)) (0 : Nat)).toI)
 (kW d (Int.toNat (1 : Int))))).len =
 (cat w (xW k n s d)).len ∧
 List.take (2001 : Nat)
 (List.take (2001 : Nat)
 (List.take (2001 : Nat)
 (w.rows ++
 List.map sR
 (par (brB k (0 : Int) (d.el (Int.toNat (0 : Int)) (0 : Nat)).toI)
 (kW d (Int.toNat (0 : Int))))) ++
 List.map sR
 (wsL ((D.l [[D.s (biW k)]]).sub (0 : Nat) ((0 : Nat) + (1 : Nat)))
 ((D.l [[D.s (biW k)]]).sub (0 : Nat) ((0 : Nat) + (1 : Nat))).len)) ++
 List.map sR
 (par (brB k (1 : Int) (d.el (Int.toNat (1 : Int)) (0 : Nat)).toI)
 (kW d (Int.toNat (1 : Int))))) =
 List.take (2001 : Nat) (w.rows ++ List.map sR (xW k n s d))) ∧
 (biB k = false → w.len = (cat w (xW k n s d)).len ∧ w.rows = List.take (2001 : Nat) (w.rows ++ List.map sR (xW k n s d))))))) (by kernel_rfl) ?_
    intro hm hf hw
    have o1 : (1 : Nat) ≤ 1000 := by decide
    unfold xF xFb at hf
    obtain ⟨f1, f2, f3, f4⟩ := hf
    refine ⟨fun h => ?_, fun n1 => ⟨fun h => ?_, fun n2 => ⟨fun h => ?_, fun n3 => ⟨fun h => ?_, fun n4 => ?_⟩⟩⟩⟩
    · obtain rfl := eq_of_beq h
      have hn := f1 rfl
      have := itW_size hn
      exact ⟨hn, rfl, rfl, Nat.le_refl _, hw, o1, ok1 (by omega), eqD (put_eq w [itW n])⟩
    · obtain rfl := eq_of_beq h
      have hn := f2 rfl
      exact ⟨rfl, rfl, Nat.le_refl _, hw, o1, ok1 (by omega), eqD (put_eq w [s])⟩
    · obtain rfl := eq_of_beq h
      obtain ⟨hl, hk⟩ := f3 rfl
      refine ⟨rfl, rfl, Nat.le_refl _, hw, o1, ok1 (by decide), rfl, rfl, hm, by omega, hk, cat_le _ _, eqD ?_⟩
      rw [put1s, cat_cat]; rfl
    · obtain ⟨hl, k0, k1⟩ := f4 h
      have := biW_size k
      refine ⟨rfl, rfl, hm, by omega, k0, hw, rfl, rfl, Nat.le_refl _, cat_le _ _, o1, ok1 (by omega), rfl, rfl, hm, by omega, k1, cat_le _ _, eqD ?_⟩
      rw [put1s, cat_cat, cat_cat]
      congr 1
      unfold xW xWb
      rw [if_neg (ne_of_beq_false n1), if_neg (ne_of_beq_false n2), if_neg (ne_of_beq_false n3), if_pos h]; rfl
    · have e : xW k n s d = [] := by
        unfold xW xWb
        rw [if_neg (ne_of_beq_false n1), if_neg (ne_of_beq_false n2), if_neg (ne_of_beq_false n3), if_neg (by rw [n4]; decide)]
      rw [e]
      exact cat_nil hw
  · trivial
theorem xwr_ok : ConOK Tryd.prog 90 xwrC :=
  conM_rec xwrM (fun _ _ => by kernel_rfl) fun m ih => by
    rw [xwr_under] at ih ⊢
    exact xwr_step m ih
end Go.Proofs.YtomodncooiddaaaDoor.Sx.Z
