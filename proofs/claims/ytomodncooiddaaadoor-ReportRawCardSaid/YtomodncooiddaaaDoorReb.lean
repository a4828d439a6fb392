/-
  Itvs and alarms as words, by the reference and by the program.
-/
import Derived.Test.YtomodncooiddaaaDoorRea
namespace Go.Proofs.YtomodncooiddaaaDoor.Sx.Z
open Go.RowKit
theorem itZ {n : Int} (h : nI n) : (itW n).size ≤ 21 := Lib.itoa_length_le n h.1 h.2
def toB : ByteArray := ⟨#[32, 116, 111, 32]⟩
def itT (l h : Int) : ByteArray := if l > h then ⟨#[110, 111, 110, 101]⟩ else if l = h then itW l else if l = -2147483648 ∧ h = 2147483647 then ⟨#[97, 110, 121]⟩ else (itW l ++ toB) ++ itW h
def kdW (k : Int) : ByteArray := if k = 1 then ⟨#[102, 97, 105, 108, 101, 100, 32, 97, 115, 115, 101, 114, 116, 105, 111, 110]⟩ else if k = 2 then ⟨#[111, 118, 101, 114, 102, 108, 111, 119]⟩ else if k = 3 then ⟨#[100, 105, 118, 105, 115, 105, 111, 110, 32, 98, 121, 32, 122, 101, 114, 111]⟩ else if k = 4 then ⟨#[102, 117, 108, 108, 32, 99, 104, 97, 110, 110, 101, 108]⟩ else if k = 5 then ⟨#[119, 114, 111, 110, 103, 32, 116, 97, 103]⟩ else if k = 6 then ⟨#[98, 114, 111, 107, 101, 110, 32, 114, 117, 108, 101]⟩ else ⟨#[101, 114, 114, 111, 114]⟩
def apB : ByteArray := ⟨#[32, 97, 116, 32, 112, 114, 111, 99, 101, 115, 115, 32]⟩
def aeB : ByteArray := ⟨#[32, 101, 100, 103, 101, 32]⟩
def alT (p e k : Int) : ByteArray := (((kdW k ++ apB) ++ itW p) ++ aeB) ++ itW e
theorem ba_size (a b : ByteArray) : (a ++ b).size = a.size + b.size := ByteArray.size_append
theorem kdW_size (k : Int) : (kdW k).size ≤ 16 := by
  unfold kdW
  (repeat' split) <;> decide
theorem mx {a : Nat} (h : a ≤ 1000) : ((a : Nat) : Int) ≤ IntKind.i64.max := by
  show ((a : Nat) : Int) ≤ 9223372036854775807
  omega
theorem dgS_size {n : Int} (h : n < 18446744073709551616) : (dgS n).size ≤ 20 := by
  show (Lib.decDigits n.toNat).length ≤ 20
  exact dec_len (by omega)
theorem kd_eq {k : Int} (h : 1 ≤ k ∧ k ≤ 6) : ((D.l [[D.s ⟨#[102, 97, 105, 108, 101, 100, 32, 97, 115, 115, 101, 114, 116, 105, 111, 110]⟩], [D.s ⟨#[111, 118, 101, 114, 102, 108, 111, 119]⟩], [D.s ⟨#[100, 105, 118, 105, 115, 105, 111, 110, 32, 98, 121, 32, 122, 101, 114, 111]⟩], [D.s ⟨#[102, 117, 108, 108, 32, 99, 104, 97, 110, 110, 101, 108]⟩], [D.s ⟨#[119, 114, 111, 110, 103, 32, 116, 97, 103]⟩], [D.s ⟨#[98, 114, 111, 107, 101, 110, 32, 114, 117, 108, 101]⟩]]).el (k - 1).toNat 0).toS = kdW k := by
  have : k = 1 ∨ k = 2 ∨ k = 3 ∨ k = 4 ∨ k = 5 ∨ k = 6 := by omega
  rcases this with rfl | rfl | rfl | rfl | rfl | rfl <;> rfl
theorem kd_er {k : Int} (h : ¬ (1 ≤ k ∧ k ≤ 6)) : kdW k = ⟨#[101, 114, 114, 111, 114]⟩ := by
  unfold kdW
  rw [if_neg (by omega), if_neg (by omega), if_neg (by omega), if_neg (by omega), if_neg (by omega), if_neg (by omega)]
theorem al_end {p e k : Int} (hp : nI p) (he : nI e) {w : ByteArray} (hw : w = kdW k) : ((w.size + apB.size : Nat) : Int) ≤ IntKind.i64.max ∧ nI p ∧ (((w ++ apB).size + (itW p).size : Nat) : Int) ≤ IntKind.i64.max ∧ ((((w ++ apB) ++ itW p).size + aeB.size : Nat) : Int) ≤ IntKind.i64.max ∧ nI e ∧ (((((w ++ apB) ++ itW p) ++ aeB).size + (itW e).size : Nat) : Int) ≤ IntKind.i64.max ∧ Value.string ((((w ++ apB) ++ itW p) ++ aeB) ++ itW e) = Value.string (alT p e k) := by
  subst hw
  have h1 := kdW_size k
  have h2 := itZ hp
  have h3 := itZ he
  have h4 : apB.size = 12 := rfl
  have h5 : aeB.size = 6 := rfl
  simp only [ba_size, h4, h5]
  exact ⟨mx (by omega), hp, mx (by omega), mx (by omega), he, mx (by omega), rfl⟩
noncomputable def nmbS : FSpec := fun ds _ => match ds with
  | [.i n] => some { val := .one (.sc (.raw (.string (itW n)))), vc := [nI n] }
  | _ => none
noncomputable def nmbC : Con := con [.sc (.int .i64)] nmbS
theorem nmb_ok : ConOK Tryd.prog 37 nmbC := by
  refine fn_ob tt_ok mixed Tryd.func37 rfl (fun _ _ => by kernel_rfl) (A := fun ds => ⟨fun _ => Cons.of [(62, digC)], fun _ => none, fun _ => none⟩) (fun _ _ => (cons_cons dig_ok cons_nil)) (by kernel_rfl) ?_
  intro ds fr
  unfold nmbS
  split
  · rename_i n
    refine kmp (q := nI n →
 (decide (n < (0 : Int)) = true →
 ((0 : Int) ≤ IntKind.u64.wrap (IntKind.i64.wrap ((0 : Int) - n)) ∧ IntKind.u64.wrap (IntKind.i64.wrap ((0 : Int) - n)) < (18446744073709551616 : Int)) ∧
 (↑((ByteArray.mk #[(45 : UInt8)]).size + (dgS (IntKind.u64.wrap (IntKind.i64.wrap ((0 : Int) - n)))).size) : Int) ≤ IntKind.i64.max ∧
 Value.string ((ByteArray.mk #[(45 : UInt8)]) ++ dgS (IntKind.u64.wrap (IntKind.i64.wrap ((0 : Int) - n)))) = Value.string (itW n)) ∧
 (decide (n < (0 : Int)) = false →
 ((0 : Int) ≤ IntKind.u64.wrap n ∧ IntKind.u64.wrap n < (18446744073709551616 : Int)) ∧ Value.string (dgS (IntKind.u64.wrap n)) = Value.string (itW n))) (by kernel_rfl) ?_
    rintro ⟨h1, h2⟩
    refine ⟨fun h => ?_, fun h => ?_⟩
    · have h := of_decide_eq_true h
      have e : IntKind.u64.wrap (IntKind.i64.wrap (0 - n)) = -n := by rw [IntKind.wrap_u64, IntKind.wrap_i64]; omega
      rw [e]
      have hs := dgS_size (n := -n) (by omega)
      refine ⟨⟨by omega, by omega⟩, mx (by show 1 + (dgS (-n)).size ≤ 1000; omega), by rw [itW_neg h]⟩
    · have h := of_decide_eq_false h
      have e : IntKind.u64.wrap n = n := by rw [IntKind.wrap_u64]; omega
      rw [e]
      exact ⟨⟨by omega, by omega⟩, by rw [itW_nn (by omega)]⟩
  · trivial
noncomputable def ritS : FSpec := fun ds _ => match ds with
  | [.i l, .i h] => some { val := .one (.sc (.raw (.string (itT l h)))), vc := [nI l, nI h] }
  | _ => none
noncomputable def ritC : Con := con [.agg [.c (.int .i64), .c (.int .i64)]] ritS
theorem rit_ok : ConOK Tryd.prog 16 ritC := by
  refine fn_ob tt_ok mixed Tryd.func16 rfl (fun _ _ => by kernel_rfl) (A := fun ds => ⟨fun _ => Cons.of [(37, nmbC)], fun _ => none, fun _ => none⟩) (fun _ _ => (cons_cons nmb_ok cons_nil)) (by kernel_rfl) ?_
  intro ds fr
  unfold ritS
  split
  · rename_i l h
    refine kmp (q := nI l →
 nI h →
 (decide (l > h) = true → Value.string (ByteArray.mk #[(110 : UInt8), (111 : UInt8), (110 : UInt8), (101 : UInt8)]) = Value.string (itT l h)) ∧
 (decide (l > h) = false →
 ((l == h) = true → nI l ∧ Value.string (itW l) = Value.string (itT l h)) ∧
 ((l == h) = false →
 ((l == (-2147483648 : Int) && h == (2147483647 : Int)) = true →
 Value.string (ByteArray.mk #[(97 : UInt8), (110 : UInt8), (121 : UInt8)]) = Value.string (itT l h)) ∧
 ((l == (-2147483648 : Int) && h == (2147483647 : Int)) = false →
 nI l ∧
 (↑((itW l).size + (ByteArray.mk #[(32 : UInt8), (116 : UInt8), (111 : UInt8), (32 : UInt8)]).size) : Int) ≤ IntKind.i64.max ∧
 nI h ∧
 (↑((itW l ++ (ByteArray.mk #[(32 : UInt8), (116 : UInt8), (111 : UInt8), (32 : UInt8)])).size + (itW h).size) : Int) ≤ IntKind.i64.max ∧
 Value.string (itW l ++ (ByteArray.mk #[(32 : UInt8), (116 : UInt8), (111 : UInt8), (32 : UInt8)]) ++ itW h) = Value.string (itT l h))))) (by kernel_rfl) ?_
    intro hl hh
    have h1 := itZ hl
    have h2 := itZ hh
    have h4 : toB.size = 4 := rfl
    unfold itT
    refine ⟨fun h => ?_, fun n0 => ⟨fun h => ?_, fun n1 => ⟨fun h => ?_, fun n2 => ?_⟩⟩⟩
    · rw [if_pos (of_decide_eq_true h)]
    · have n0 := of_decide_eq_false n0
      rw [if_neg n0, if_pos (eq_of_beq h)]
      exact ⟨hl, rfl⟩
    · have n0 := of_decide_eq_false n0
      rw [if_neg n0, if_neg (ne_of_beq_false n1), if_pos (by simpa using h)]
    · have n0 := of_decide_eq_false n0
      rw [if_neg n0, if_neg (ne_of_beq_false n1), if_neg (by intro hx; rw [hx.1, hx.2] at n2; exact absurd n2 (by decide))]
      refine ⟨hl, mx (by show (itW l).size + toB.size ≤ 1000; omega), hh, mx ?_, rfl⟩
      show (itW l ++ toB).size + (itW h).size ≤ 1000
      rw [ba_size]; omega
  · trivial
noncomputable def ralS : FSpec := fun ds _ => match ds with
  | [.i p, .i e, .i k] => some { val := .one (.sc (.raw (.string (alT p e k)))), vc := [nI p, nI e, nI k] }
  | _ => none
noncomputable def ralC : Con := con [.sc (.int .i64), .sc (.int .i64), .sc (.int .i64)] ralS
theorem ral_ok : ConOK Tryd.prog 18 ralC := by
  refine fn_ob tt_ok mixed Tryd.func18 rfl (fun _ _ => by kernel_rfl) (A := fun ds => ⟨fun _ => Cons.of [(37, nmbC)], fun _ => none, fun _ => none⟩) (fun _ _ => (cons_cons nmb_ok cons_nil)) (by kernel_rfl) ?_
  intro ds fr
  unfold ralS
  split
  · rename_i p e k
    refine kmp (q := nI p →
 nI e →
 nI k →
 ((decide (k ≥ (1 : Int)) && decide (k ≤ (6 : Int))) = true →
 ((0 : Int) ≤ IntKind.i64.wrap (k - (1 : Int)) ∧ IntKind.i64.wrap (k - (1 : Int)) < (↑(6 : Nat) : Int)) ∧
 (IntKind.i64.wrap (k - (1 : Int))).toNat <
 (D.l
 [[D.s
 (ByteArray.mk #[(102 : UInt8), (97 : UInt8), (105 : UInt8), (108 : UInt8), (101 : UInt8), (100 : UInt8), (32 : UInt8), (97 : UInt8),
 (115 : UInt8), (115 : UInt8), (101 : UInt8), (114 : UInt8), (116 : UInt8), (105 : UInt8), (111 : UInt8), (110 : UInt8)])],
 [D.s
 (ByteArray.mk #[(111 : UInt8), (118 : UInt8), (101 : UInt8), (114 : UInt8), (102 : UInt8), (108 : UInt8), (111 : UInt8), (119 : UInt8)])],
 [D.s
 (ByteArray.mk #[(100 : UInt8), (105 : UInt8), (118 : UInt8), (105 : UInt8), (115 : UInt8), (105 : UInt8), (111 : UInt8), (110 : UInt8),
 (32 : UInt8), (98 : UInt8), (121 : UInt8), (32 : UInt8), (122 : UInt8), (101 : UInt8), (114 : UInt8), (111 : UInt8)])],
 [D.s
 (ByteArray.mk #[(102 : UInt8), (117 : UInt8), (108 : UInt8), (108 : UInt8), (32 : UInt8), (99 : UInt8), (104 : UInt8), (97 : UInt8),
 (110 : UInt8), (110 : UInt8), (101 : UInt8), (108 : UInt8)])],
 [D.s
 (ByteArray.mk #[(119 : UInt8), (114 : UInt8), (111 : UInt8), (110 : UInt8), (103 : UInt8), (32 : UInt8), (116 : UInt8), (97 : UInt8),
 (103 : UInt8)])],
 [D.s
 (ByteArray.mk #[(98 : UInt8), (114 : UInt8), (111 : UInt8), (107 : UInt8), (101 : UInt8), (110 : UInt8), (32 : UInt8), (114 : UInt8),
 (117 : UInt8), (108 : UInt8), (101 : UInt8)])]]).len ∧
 (↑(((D.l
 [[D.s
 (ByteArray.mk #[(102 : UInt8), (97 : UInt8), (105 : UInt8), (108 : UInt8), (101 : UInt8), (100 : UInt8), (32 : UInt8),
 (97 : UInt8), (115 : UInt8), (115 : UInt8), (101 : UInt8), (114 : UInt8), (116 : UInt8), (105 : UInt8),
 (111 : UInt8), (110 : UInt8)])],
 [D.s
 (ByteArray.mk #[(111 : UInt8), (118 : UInt8), (101 : UInt8), (114 : UInt8), (102 : UInt8), (108 : UInt8), (111 : UInt8),
 (119 : UInt8)])],
 [D.s
 (ByteArray.mk #[(100 : UInt8), (105 : UInt8), (118 : UInt8), (105 : UInt8), (115 : UInt8), (105 : UInt8), (111 : UInt8),
 (110 : UInt8), (32 : UInt8), (98 : UInt8), (121 : UInt8), (32 : UInt8), (122 : UInt8), (101 : UInt8),
 (114 : UInt8), (111 : UInt8)])],
 [D.s
 (ByteArray.mk #[(102 : UInt8), (117 : UInt8), (108 : UInt8), (108 : UInt8), (32 : UInt8), (99 : UInt8), (104 : UInt8),
 (97 : UInt8), (110 : UInt8), (110 : UInt8), (101 : UInt8), (108 : UInt8)])],
 [D.s
 (ByteArray.mk #[(119 : UInt8), (114 : UInt8), (111 : UInt8), (110 : UInt8), (103 : UInt8), (32 : UInt8), (116 : UInt8),
 (97 : UInt8), (103 : UInt8)])],
 [D.s
 (ByteArray.mk #[(98 : UInt8), (114 : UInt8), (111 : UInt8), (107 : UInt8), (101 : UInt8), (110 : UInt8), (32 : UInt8),
 (114 : UInt8), (117 : UInt8), (108 : UInt8), (101 : UInt8)])]]).el
 (IntKind.i64.wrap (k - (1 : Int))).toNat (0 : Nat)).toS.size +
 (ByteArray.mk #[(32 : UInt8), (97 : UInt8), (116 : UInt8), (32 : UInt8), (112 : UInt8), (114 : UInt8), (111 : UInt8), (99 : UInt8),
 (101 : UInt8), (115 : UInt8), (115 : UInt8), (32 : UInt8)]).size) :
 Int) ≤
 IntKind.i64.max ∧
 nI p ∧
 (↑((((D.l
 [[D.s
 (ByteArray.mk #[(102 : UInt8), (97 : UInt8), (105 : UInt8), (108 : UInt8), (101 : UInt8), (100 : UInt8), (32 : UInt8),
 (97 : UInt8), (115 : UInt8), (115 : UInt8), (101 : UInt8), (114 : UInt8), (116 : UInt8), (105 : UInt8),
 (111 : UInt8), (110 : UInt8)])],
 [D.s
 (ByteArray.mk #[(111 : UInt8), (118 : UInt8), (101 : UInt8), (114 : UInt8), (102 : UInt8), (108 : UInt8), (111 : UInt8),
 (119 : UInt8)])],
 [D.s
 (ByteArray.mk #[(100 : UInt8), (105 : UInt8), (118 : UInt8), (105 : UInt8), (115 : UInt8), (105 : UInt8), (111 : UInt8),
 (110 : UInt8), (32 : UInt8), (98 : UInt8), (121 : UInt8), (32 : UInt8), (122 : UInt8), (101 : UInt8),
 (114 : UInt8), (111 : UInt8)])],
 [D.s
 (ByteArray.mk #[(102 : UInt8), (117 : UInt8), (108 : UInt8), (108 : UInt8), (32 : UInt8), (99 : UInt8), (104 : UInt8),
 (97 : UInt8), (110 : UInt8), (110 : UInt8), (101 : UInt8), (108 : UInt8)])],
 [D.s
 (ByteArray.mk #[(119 : UInt8), (114 : UInt8), (111 : UInt8), (110 : UInt8), (103 : UInt8), (32 : UInt8), (116 : UInt8),
 (97 : UInt8), (103 : UInt8)])],
 [D.s
 (ByteArray.mk #[(98 : UInt8), (114 : UInt8), (111 : UInt8), (107 : UInt8), (101 : UInt8), (110 : UInt8), (32 : UInt8),
 (114 : UInt8), (117 : UInt8), (108 : UInt8), (101 : UInt8)])]]).el
 (IntKind.i64.wrap (k - (1 : Int))).toNat (0 : Nat)).toS ++
 (ByteArray.mk #[(32 : UInt8), (97 : UInt8), (116 : UInt8), (32 : UInt8), (112 : UInt8), (114 : UInt8), (111 : UInt8), (99 : UInt8),
 (101 : UInt8), (115 : UInt8), (115 : UInt8), (32 : UInt8)])).size +
 (itW p).size) :
 Int) ≤
 IntKind.i64.max ∧
 (↑((((D.l
 [[D.s
 (ByteArray.mk #[(102 : UInt8), (97 : UInt8), (105 : UInt8), (108 : UInt8), (101 : UInt8), (100 : UInt8), (32 : UInt8),
 (97 : UInt8), (115 : UInt8), (115 : UInt8), (101 : UInt8), (114 : UInt8), (116 : UInt8), (105 : UInt8),
 (111 : UInt8), (110 : UInt8)])],
 [D.s
 (ByteArray.mk #[(111 : UInt8), (118 : UInt8), (101 : UInt8), (114 : UInt8), (102 : UInt8), (108 : UInt8), (111 : UInt8),
 (119 : UInt8)])],
 [D.s
 (ByteArray.mk #[(100 : UInt8), (105 : UInt8), (118 : UInt8), (105 : UInt8), (115 : UInt8), (105 : UInt8), (111 : UInt8),
 (110 : UInt8), (32 : UInt8), (98 : UInt8), (121 : UInt8), (32 : UInt8), (122 : UInt8), (101 : UInt8),
 (114 : UInt8), (111 : UInt8)])],
 [D.s
 (ByteArray.mk #[(102 : UInt8), (117 : UInt8), (108 : UInt8), (108 : UInt8), (32 : UInt8), (99 : UInt8), (104 : UInt8),
 (97 : UInt8), (110 : UInt8), (110 : UInt8), (101 : UInt8), (108 : UInt8)])],
 [D.s
 (ByteArray.mk #[(119 : UInt8), (114 : UInt8), (111 : UInt8), (110 : UInt8), (103 : UInt8), (32 : UInt8), (116 : UInt8),
 (97 : UInt8), (103 : UInt8)])],
 [D.s
 (ByteArray.mk #[(98 : UInt8), (114 : UInt8), (111 : UInt8), (107 : UInt8), (101 : UInt8), (110 : UInt8), (32 : UInt8),
 (114 : UInt8), (117 : UInt8), (108 : UInt8), (101 : UInt8)])]]).el
 (IntKind.i64.wrap (k - (1 : Int))).toNat (0 : Nat)).toS ++
 (ByteArray.mk #[(32 : UInt8), (97 : UInt8), (116 : UInt8), (32 : UInt8), (112 : UInt8), (114 : UInt8), (111 : UInt8), (99 : UInt8),
 (101 : UInt8), (115 : UInt8), (115 : UInt8), (32 : UInt8)]) ++
 itW p).size +
 (ByteArray.mk #[(32 : UInt8), (101 : UInt8), (100 : UInt8), (103 : UInt8), (101 : UInt8), (32 : UInt8)]).size) :
 Int) ≤
 IntKind.i64.max ∧
 nI e ∧
 (↑((((D.l
 [[D.s
 (ByteArray.mk #[(102 : UInt8), (97 : UInt8), (105 : UInt8), (108 : UInt8), (101 : UInt8), (100 : UInt8),
 (32 : UInt8), (97 : UInt8), (115 : UInt8), (115 : UInt8), (101 : UInt8), (114 : UInt8),
 (116 : UInt8), (105 : UInt8), (111 : UInt8), (110 : UInt8)])],
 [D.s
 (ByteArray.mk #[(111 : UInt8), (118 : UInt8), (101 : UInt8), (114 : UInt8), (102 : UInt8), (108 : UInt8),
 (111 : UInt8), (119 : UInt8)])],
 [D.s
 (ByteArray.mk #[(100 : UInt8), (105 : UInt8), (118 : UInt8), (105 : UInt8), (115 : UInt8), (105 : UInt8),
 (111 : UInt8), (110 : UInt8), (32 : UInt8), (98 : UInt8), (121 : UInt8), (32 : UInt8),
 (122 : UInt8), (101 : UInt8), (114 : UInt8), (111 : UInt8)])],
 [D.s
 (ByteArray.mk #[(102 : UInt8), (117 : UInt8), (108 : UInt8), (108 : UInt8), (32 : UInt8), (99 : UInt8),
 (104 : UInt8), (97 : UInt8), (110 : UInt8), (110 : UInt8), (101 : UInt8), (108 : UInt8)])],
 [D.s
 (ByteArray.mk #[(119 : UInt8), (114 : UInt8), (111 : UInt8), (110 : UInt8), (103 : UInt8), (32 : UInt8),
 (116 : UInt8), (97 : UInt8), (103 : UInt8)])],
 [D.s
 (ByteArray.mk #[(98 : UInt8), (114 : UInt8), (111 : UInt8), (107 : UInt8), (101 : UInt8), (110 : UInt8),
 (32 : UInt8), (114 : UInt8), (117 : UInt8), (108 : UInt8), (101 : UInt8)])]]).el
 (IntKind.i64.wrap (k - (1 : Int))).toNat (0 : Nat)).toS ++
 (ByteArray.mk #[(32 : UInt8), (97 : UInt8), (116 : UInt8), (32 : UInt8), (112 : UInt8), (114 : UInt8), (111 : UInt8),
 (99 : UInt8), (101 : UInt8), (115 : UInt8), (115 : UInt8), (32 : UInt8)]) ++
 itW p ++
 (ByteArray.mk #[(32 : UInt8), (101 : UInt8), (100 : UInt8), (103 : UInt8), (101 : UInt8), (32 : UInt8)])).size +
 (itW e).size) :
 Int) ≤
 IntKind.i64.max ∧
 Value.string
 (((D.l
 [[D.s
 (ByteArray.mk #[(102 : UInt8), (97 : UInt8), (105 : UInt8), (108 : UInt8), (101 : UInt8), (100 : UInt8), (32 : UInt8),
 (97 : UInt8), (115 : UInt8), (115 : UInt8), (101 : UInt8), (114 : UInt8), (116 : UInt8),
 (105 : UInt8), (111 : UInt8), (110 : UInt8)])],
 [D.s
 (ByteArray.mk #[(111 : UInt8), (118 : UInt8), (101 : UInt8), (114 : UInt8), (102 : UInt8), (108 : UInt8),
 (111 : UInt8), (119 : UInt8)])],
 [D.s
 (ByteArray.mk #[(100 : UInt8), (105 : UInt8), (118 : UInt8), (105 : UInt8), (115 : UInt8), (105 : UInt8),
 (111 : UInt8), (110 : UInt8), (32 : UInt8), (98 : UInt8), (121 : UInt8), (32 : UInt8), (122 : UInt8),
 (101 : UInt8), (114 : UInt8), (111 : UInt8)])],
 [D.s
 (ByteArray.mk #[(102 : UInt8), (117 : UInt8), (108 : UInt8), (108 : UInt8), (32 : UInt8), (99 : UInt8), (104 : UInt8),
 (97 : UInt8), (110 : UInt8), (110 : UInt8), (101 : UInt8), (108 : UInt8)])],
 [D.s
 (ByteArray.mk #[(119 : UInt8), (114 : UInt8), (111 : UInt8), (110 : UInt8), (103 : UInt8), (32 : UInt8),
 (116 : UInt8), (97 : UInt8), (103 : UInt8)])],
 [D.s
 (ByteArray.mk #[(98 : UInt8), (114 : UInt8), (111 : UInt8), (107 : UInt8), (101 : UInt8), (110 : UInt8), (32 : UInt8),
 (114 : UInt8), (117 : UInt8), (108 : UInt8), (101 : UInt8)])]]).el
 (IntKind.i64.wrap (k - (1 : Int))).toNat (0 : Nat)).toS ++
 (ByteArray.mk #[(32 : UInt8), (97 : UInt8), (116 : UInt8), (32 : UInt8), (112 : UInt8), (114 : UInt8), (111 : UInt8), (99 : UInt8),
 (101 : UInt8), (115 : UInt8), (115 : UInt8), (32 : UInt8)]) ++
 itW p ++
 (ByteArray.mk #[(32 : UInt8), (101 : UInt8), (100 : UInt8), (103 : UInt8), (101 : UInt8), (32 : UInt8)]) ++
 itW e) =
 Value.string (alT p e k)) ∧
 ((decide (k ≥ (1 : Int)) && decide (k ≤ (6 : Int))) = false →
 (↑((ByteArray.mk #[(101 : UInt8), (114 : UInt8), (114 : UInt8), (111 : UInt8), (114 : UInt8)]).size +
 (ByteArray.mk #[(32 : UInt8), (97 : UInt8), (116 : UInt8), (32 : UInt8), (112 : UInt8), (114 : UInt8), (111 : UInt8), (99 : UInt8), (101 : UInt8),
 (115 : UInt8), (115 : UInt8), (32 : UInt8)]).size) :
 Int) ≤
 IntKind.i64.max ∧
 nI p ∧
 (↑(((ByteArray.mk #[(101 : UInt8), (114 : UInt8), (114 : UInt8), (111 : UInt8), (114 : UInt8)]) ++
 (ByteArray.mk #[(32 : UInt8), (97 : UInt8), (116 : UInt8), (32 : UInt8), (112 : UInt8), (114 : UInt8), (111 : UInt8), (99 : UInt8),
 (101 : UInt8), (115 : UInt8), (115 : UInt8), (32 : UInt8)])).size +
 (itW p).size) :
 Int) ≤
 IntKind.i64.max ∧
 (↑(((ByteArray.mk #[(101 : UInt8), (114 : UInt8), (114 : UInt8), (111 : UInt8), (114 : UInt8)]) ++
 (ByteArray.mk #[(32 : UInt8), (97 : UInt8), (116 : UInt8), (32 : UInt8), (112 : UInt8), (114 : UInt8), (111 : UInt8), (99 : UInt8),
 (101 : UInt8), (115 : UInt8), (115 : UInt8), (32 : UInt8)]) ++
 itW p).size +
 (ByteArray.mk #[(32 : UInt8), (101 : UInt8), (100 : UInt8), (103 : UInt8), (101 : UInt8), (32 : UInt8)]).size) :
 Int) ≤
 IntKind.i64.max ∧
 nI e ∧
 (↑(((ByteArray.mk #[(101 : UInt8), (114 : UInt8), (114 : UInt8), (111 : UInt8), (114 : UInt8)]) ++
 (ByteArray.mk #[(32 : UInt8), (97 : UInt8), (116 : UInt8), (32 : UInt8), (112 : UInt8), (114 : UInt8), (111 : UInt8), (99 : UInt8),
 (101 : UInt8), (115 : UInt8), (115 : UInt8), (32 : UInt8)]) ++
 itW p ++
 (ByteArray.mk #[(32 : UInt8), (101 : UInt8), (100 : UInt8), (103 : UInt8), (101 : UInt8), (32 : UInt8)])).size +
 (itW e).size) :
 Int) ≤
 IntKind.i64.max ∧
 Value.string
 ((ByteArray.mk #[(101 : UInt8), (114 : UInt8), (114 : UInt8), (111 : UInt8), (114 : UInt8)]) ++
 (ByteArray.mk #[(32 : UInt8), (97 : UInt8), (116 : UInt8), (32 : UInt8), (112 : UInt8), (114 : UInt8), (111 : UInt8), (99 : UInt8),
 (101 : UInt8), (115 : UInt8), (115 : UInt8), (32 : UInt8)]) ++
 itW p ++
 (ByteArray.mk #[(32 : UInt8), (101 : UInt8), (100 : UInt8), (103 : UInt8), (101 : UInt8), (32 : UInt8)]) ++
 itW e) =
 Value.string (alT p e k))) (by kernel_rfl) ?_
    intro hp he hk
    obtain ⟨k1, k2⟩ := hk
    refine ⟨fun h => ?_, fun h => ?_⟩
    · simp only [Bool.and_eq_true, decide_eq_true_eq] at h
      have ew : IntKind.i64.wrap (k - 1) = k - 1 := IntWalk.i64_in _ (by omega)
      rw [ew]
      refine ⟨⟨by omega, (show k - 1 < 6 by omega)⟩, (show (k - 1).toNat < 6 by omega), ?_⟩
      rw [kd_eq ⟨by omega, h.2⟩]
      exact al_end hp he rfl
    · have hn : ¬ (1 ≤ k ∧ k ≤ 6) := fun hx => by
        rw [decide_eq_true (show k ≥ 1 from hx.1), decide_eq_true hx.2] at h; cases h
      exact al_end hp he (kd_er hn).symm
  · trivial
noncomputable def empS : FSpec := fun ds _ => match ds with
  | [.i l, .i h] => some { val := .one (.sc (.bool (.sym (decide (l > h))))), vc := [] }
  | _ => none
noncomputable def empC : Con := con [.agg [.c (.int .i64), .c (.int .i64)]] empS
theorem emp_ok : ConOK Tryd.prog 34 empC := by
  refine fn_ob tt_ok mixed Tryd.func34 rfl (fun _ _ => by kernel_rfl) (A := fun ds => ⟨fun _ => Cons.of [], fun _ => none, fun _ => none⟩) (fun _ _ => cons_nil) (by kernel_rfl) ?_
  intro ds fr
  unfold empS
  split
  · rename_i l h
    refine kmp (q := decide (l > h) = decide (l > h)) (by kernel_rfl) ?_
    trivial
  · trivial
noncomputable def ialS : FSpec := fun ds _ => match ds with
  | [] => some { val := .one (.agg [.c (.int .i64 (.sym (-2147483648))), .c (.int .i64 (.sym (2147483647)))]), vc := [] }
  | _ => none
noncomputable def ialC : Con := con [] ialS
theorem ial_ok : ConOK Tryd.prog 36 ialC := by
  refine fn_ob tt_ok mixed Tryd.func36 rfl (fun _ _ => by kernel_rfl) (A := fun ds => ⟨fun _ => Cons.of [], fun _ => none, fun _ => none⟩) (fun _ _ => cons_nil) (by kernel_rfl) ?_
  intro ds fr
  unfold ialS
  split
  · skip
    refine kmp (q := (-2147483648 : Int) = (-2147483648 : Int) ∧ (2147483647 : Int) = (2147483647 : Int)) (by kernel_rfl) ?_
    exact ⟨rfl, rfl⟩
  · trivial
noncomputable def inoS : FSpec := fun ds _ => match ds with
  | [] => some { val := .one (.agg [.c (.int .i64 (.sym (1))), .c (.int .i64 (.sym (0)))]), vc := [] }
  | _ => none
noncomputable def inoC : Con := con [] inoS
theorem ino_ok : ConOK Tryd.prog 33 inoC := by
  refine fn_ob tt_ok mixed Tryd.func33 rfl (fun _ _ => by kernel_rfl) (A := fun ds => ⟨fun _ => Cons.of [], fun _ => none, fun _ => none⟩) (fun _ _ => cons_nil) (by kernel_rfl) ?_
  intro ds fr
  unfold inoS
  split
  · skip
    refine kmp (q := (1 : Int) = (1 : Int) ∧ (0 : Int) = (0 : Int)) (by kernel_rfl) ?_
    exact ⟨rfl, rfl⟩
  · trivial
noncomputable def kndS : FSpec := fun ds _ => match ds with
  | [.i k] => some { val := .one (.sc (.raw (.string (kdW k)))), vc := [] }
  | _ => none
noncomputable def kndC : Con := con [.sc (.int .i64)] kndS
theorem knd_ok : ConOK Tryd.prog 38 kndC := by
  refine fn_ob tt_ok mixed Tryd.func38 rfl (fun _ _ => by kernel_rfl) (A := fun ds => ⟨fun _ => Cons.of [], fun _ => none, fun _ => none⟩) (fun _ _ => cons_nil) (by kernel_rfl) ?_
  intro ds fr
  unfold kndS
  split
  · rename_i k
    refine kmp (q := ((k == (1 : Int)) = true →
 Value.string
 (ByteArray.mk #[(102 : UInt8), (97 : UInt8), (105 : UInt8), (108 : UInt8), (101 : UInt8), (100 : UInt8), (32 : UInt8), (97 : UInt8), (115 : UInt8), (115 : UInt8),
 (101 : UInt8), (114 : UInt8), (116 : UInt8), (105 : UInt8), (111 : UInt8), (110 : UInt8)]) =
 Value.string (kdW k)) ∧
 ((k == (1 : Int)) = false →
 ((k == (2 : Int)) = true →
 Value.string (ByteArray.mk #[(111 : UInt8), (118 : UInt8), (101 : UInt8), (114 : UInt8), (102 : UInt8), (108 : UInt8), (111 : UInt8), (119 : UInt8)]) =
 Value.string (kdW k)) ∧
 ((k == (2 : Int)) = false →
 ((k == (3 : Int)) = true →
 Value.string
 (ByteArray.mk #[(100 : UInt8), (105 : UInt8), (118 : UInt8), (105 : UInt8), (115 : UInt8), (105 : UInt8), (111 : UInt8), (110 : UInt8), (32 : UInt8),
 (98 : UInt8), (121 : UInt8), (32 : UInt8), (122 : UInt8), (101 : UInt8), (114 : UInt8), (111 : UInt8)]) =
 Value.string (kdW k)) ∧
 ((k == (3 : Int)) = false →
 ((k == (4 : Int)) = true →
 Value.string
 (ByteArray.mk #[(102 : UInt8), (117 : UInt8), (108 : UInt8), (108 : UInt8), (32 : UInt8), (99 : UInt8), (104 : UInt8), (97 : UInt8), (110 : UInt8),
 (110 : UInt8), (101 : UInt8), (108 : UInt8)]) =
 Value.string (kdW k)) ∧
 ((k == (4 : Int)) = false →
 ((k == (5 : Int)) = true →
 Value.string
 (ByteArray.mk #[(119 : UInt8), (114 : UInt8), (111 : UInt8), (110 : UInt8), (103 : UInt8), (32 : UInt8), (116 : UInt8), (97 : UInt8),
 (103 : UInt8)]) =
 Value.string (kdW k)) ∧
 ((k == (5 : Int)) = false →
 ((k == (6 : Int)) = true →
 Value.string
 (ByteArray.mk #[(98 : UInt8), (114 : UInt8), (111 : UInt8), (107 : UInt8), (101 : UInt8), (110 : UInt8), (32 : UInt8), (114 : UInt8),
 (117 : UInt8), (108 : UInt8), (101 : UInt8)]) =
 Value.string (kdW k)) ∧
 ((k == (6 : Int)) = false →
 Value.string (ByteArray.mk #[(101 : UInt8), (114 : UInt8), (114 : UInt8), (111 : UInt8), (114 : UInt8)]) = Value.string (kdW k)))))))) (by kernel_rfl) ?_
    refine ⟨fun h => ?_, fun n1 => ⟨fun h => ?_, fun n2 => ⟨fun h => ?_, fun n3 => ⟨fun h => ?_, fun n4 => ⟨fun h => ?_, fun n5 => ⟨fun h => ?_, fun n6 => ?_⟩⟩⟩⟩⟩⟩
    iterate 6 (obtain rfl := eq_of_beq h; rfl)
    unfold kdW
    rw [if_neg (ne_of_beq_false n1), if_neg (ne_of_beq_false n2), if_neg (ne_of_beq_false n3), if_neg (ne_of_beq_false n4), if_neg (ne_of_beq_false n5), if_neg (ne_of_beq_false n6)]
  · trivial
noncomputable def pitS : FSpec := fun ds _ => match ds with
  | [.i l, .i h] => some { val := .one (.sc (.raw (.string (itT l h)))), vc := [nI l, nI h] }
  | _ => none
noncomputable def pitC : Con := con [.agg [.c (.int .i64), .c (.int .i64)]] pitS
theorem pit_ok : ConOK Tryd.prog 15 pitC := by
  refine fn_ob tt_ok mixed Tryd.func15 rfl (fun _ _ => by kernel_rfl) (A := fun ds => ⟨fun _ => Cons.of [(35, itC), (34, empC), (36, ialC)], fun _ => none, fun _ => none⟩) (fun _ _ => (cons_cons it_ok (cons_cons emp_ok (cons_cons ial_ok cons_nil)))) (by kernel_rfl) ?_
  intro ds fr
  unfold pitS
  split
  · rename_i l h
    refine kmp (q := nI l →
 nI h →
 (decide (l > h) = true → Value.string (ByteArray.mk #[(110 : UInt8), (111 : UInt8), (110 : UInt8), (101 : UInt8)]) = Value.string (itT l h)) ∧
 (decide (l > h) = false →
 ((l == h) = true → nI l ∧ Value.string (itW l) = Value.string (itT l h)) ∧
 ((l == h) = false →
 ((l == (-2147483648 : Int) && (h == (2147483647 : Int) && true)) = true →
 Value.string (ByteArray.mk #[(97 : UInt8), (110 : UInt8), (121 : UInt8)]) = Value.string (itT l h)) ∧
 ((l == (-2147483648 : Int) && (h == (2147483647 : Int) && true)) = false →
 nI l ∧
 (↑((itW l).size + (ByteArray.mk #[(32 : UInt8), (116 : UInt8), (111 : UInt8), (32 : UInt8)]).size) : Int) ≤ IntKind.i64.max ∧
 nI h ∧
 (↑((itW l ++ (ByteArray.mk #[(32 : UInt8), (116 : UInt8), (111 : UInt8), (32 : UInt8)])).size + (itW h).size) : Int) ≤ IntKind.i64.max ∧
 Value.string (itW l ++ (ByteArray.mk #[(32 : UInt8), (116 : UInt8), (111 : UInt8), (32 : UInt8)]) ++ itW h) = Value.string (itT l h))))) (by kernel_rfl) ?_
    intro hl hh
    have h1 := itZ hl
    have h2 := itZ hh
    have h4 : toB.size = 4 := rfl
    unfold itT
    refine ⟨fun h => ?_, fun n0 => ⟨fun h => ?_, fun n1 => ⟨fun h => ?_, fun n2 => ?_⟩⟩⟩
    · rw [if_pos (of_decide_eq_true h)]
    · have n0 := of_decide_eq_false n0
      rw [if_neg n0, if_pos (eq_of_beq h)]
      exact ⟨hl, rfl⟩
    · have n0 := of_decide_eq_false n0
      rw [if_neg n0, if_neg (ne_of_beq_false n1), if_pos (by simpa using h)]
    · have n0 := of_decide_eq_false n0
      rw [if_neg n0, if_neg (ne_of_beq_false n1), if_neg (by intro hx; rw [hx.1, hx.2] at n2; exact absurd n2 (by decide))]
      refine ⟨hl, mx (by show (itW l).size + toB.size ≤ 1000; omega), hh, mx ?_, rfl⟩
      show (itW l ++ toB).size + (itW h).size ≤ 1000
      rw [ba_size]; omega
  · trivial
noncomputable def palS : FSpec := fun ds _ => match ds with
  | [.i p, .i e, .i k] => some { val := .one (.sc (.raw (.string (alT p e k)))), vc := [nI p, nI e, nI k] }
  | _ => none
noncomputable def palC : Con := con [.agg [.c (.int .i64), .c (.int .i64), .c (.int .i64)]] palS
theorem pal_ok : ConOK Tryd.prog 17 palC := by
  refine fn_ob tt_ok mixed Tryd.func17 rfl (fun _ _ => by kernel_rfl) (A := fun ds => ⟨fun _ => Cons.of [(35, itC), (38, kndC)], fun _ => none, fun _ => none⟩) (fun _ _ => (cons_cons it_ok (cons_cons knd_ok cons_nil))) (by kernel_rfl) ?_
  intro ds fr
  unfold palS
  split
  · rename_i p e k
    refine kmp (q := nI p →
 nI e →
 nI k →
 (↑((kdW k).size +
 (ByteArray.mk #[(32 : UInt8), (97 : UInt8), (116 : UInt8), (32 : UInt8), (112 : UInt8), (114 : UInt8), (111 : UInt8), (99 : UInt8), (101 : UInt8),
 (115 : UInt8), (115 : UInt8), (32 : UInt8)]).size) :
 Int) ≤
 IntKind.i64.max ∧
 nI p ∧
 (↑((kdW k ++
 (ByteArray.mk #[(32 : UInt8), (97 : UInt8), (116 : UInt8), (32 : UInt8), (112 : UInt8), (114 : UInt8), (111 : UInt8), (99 : UInt8), (101 : UInt8),
 (115 : UInt8), (115 : UInt8), (32 : UInt8)])).size +
 (itW p).size) :
 Int) ≤
 IntKind.i64.max ∧
 (↑((kdW k ++
 (ByteArray.mk #[(32 : UInt8), (97 : UInt8), (116 : UInt8), (32 : UInt8), (112 : UInt8), (114 : UInt8), (111 : UInt8), (99 : UInt8),
 (101 : UInt8), (115 : UInt8), (115 : UInt8), (32 : UInt8)]) ++
 itW p).size +
 (ByteArray.mk #[(32 : UInt8), (101 : UInt8), (100 : UInt8), (103 : UInt8), (101 : UInt8), (32 : UInt8)]).size) :
 Int) ≤
 IntKind.i64.max ∧
 nI e ∧
 (↑((kdW k ++
 (ByteArray.mk #[(32 : UInt8), (97 : UInt8), (116 : UInt8), (32 : UInt8), (112 : UInt8), (114 : UInt8), (111 : UInt8), (99 : UInt8),
 (101 : UInt8), (115 : UInt8), (115 : UInt8), (32 : UInt8)]) ++
 itW p ++
 (ByteArray.mk #[(32 : UInt8), (101 : UInt8), (100 : UInt8), (103 : UInt8), (101 : UInt8), (32 : UInt8)])).size +
 (itW e).size) :
 Int) ≤
 IntKind.i64.max ∧
 Value.string
 (kdW k ++
 (ByteArray.mk #[(32 : UInt8), (97 : UInt8), (116 : UInt8), (32 : UInt8), (112 : UInt8), (114 : UInt8), (111 : UInt8), (99 : UInt8),
 (101 : UInt8), (115 : UInt8), (115 : UInt8), (32 : UInt8)]) ++
 itW p ++
 (ByteArray.mk #[(32 : UInt8), (101 : UInt8), (100 : UInt8), (103 : UInt8), (101 : UInt8), (32 : UInt8)]) ++
 itW e) =
 Value.string (alT p e k)) (by kernel_rfl) ?_
    intro hp he hk
    exact al_end hp he rfl
  · trivial
noncomputable def alsS : FSpec := fun ds _ => match ds with
  | [.i n] => some { val := .one (.sc (.raw (.string (if n = 0 then ⟨#[110, 111, 32, 97, 108, 97, 114, 109]⟩ else itW n ++ ⟨#[32, 97, 108, 97, 114, 109, 115]⟩)))), vc := [nI n] }
  | _ => none
noncomputable def alsC : Con := con [.sc (.int .i64)] alsS
theorem als_ok : ConOK Tryd.prog 42 alsC := by
  refine fn_ob tt_ok mixed Tryd.func42 rfl (fun _ _ => by kernel_rfl) (A := fun ds => ⟨fun _ => Cons.of [(35, itC)], fun _ => none, fun _ => none⟩) (fun _ _ => (cons_cons it_ok cons_nil)) (by kernel_rfl) ?_
  intro ds fr
  unfold alsS
  split
  · rename_i n
    refine kmp (q := nI n →
 ((n == (0 : Int)) = true →
 Value.string (ByteArray.mk #[(110 : UInt8), (111 : UInt8), (32 : UInt8), (97 : UInt8), (108 : UInt8), (97 : UInt8), (114 : UInt8), (109 : UInt8)]) =
 Value.string
 (if n = (0 : Int) then
 (ByteArray.mk #[(110 : UInt8), (111 : UInt8), (32 : UInt8), (97 : UInt8), (108 : UInt8), (97 : UInt8), (114 : UInt8), (109 : UInt8)])
 else itW n ++ (ByteArray.mk #[(32 : UInt8), (97 : UInt8), (108 : UInt8), (97 : UInt8), (114 : UInt8), (109 : UInt8), (115 : UInt8)]))) ∧
 ((n == (0 : Int)) = false →
 nI n ∧
 (↑((itW n).size + (ByteArray.mk #[(32 : UInt8), (97 : UInt8), (108 : UInt8), (97 : UInt8), (114 : UInt8), (109 : UInt8), (115 : UInt8)]).size) : Int) ≤
 IntKind.i64.max ∧
 Value.string (itW n ++ (ByteArray.mk #[(32 : UInt8), (97 : UInt8), (108 : UInt8), (97 : UInt8), (114 : UInt8), (109 : UInt8), (115 : UInt8)])) =
 Value.string
 (if n = (0 : Int) then
 (ByteArray.mk #[(110 : UInt8), (111 : UInt8), (32 : UInt8), (97 : UInt8), (108 : UInt8), (97 : UInt8), (114 : UInt8), (109 : UInt8)])
 else itW n ++ (ByteArray.mk #[(32 : UInt8), (97 : UInt8), (108 : UInt8), (97 : UInt8), (114 : UInt8), (109 : UInt8), (115 : UInt8)])))) (by kernel_rfl) ?_
    intro h
    have h1 := itZ h
    refine ⟨fun h0 => by rw [if_pos (eq_of_beq h0)], fun h0 => ⟨h, mx ?_, by rw [if_neg (ne_of_beq_false h0)]⟩⟩
    show (itW n).size + 7 ≤ 1000
    omega
  · trivial
end Go.Proofs.YtomodncooiddaaaDoor.Sx.Z
