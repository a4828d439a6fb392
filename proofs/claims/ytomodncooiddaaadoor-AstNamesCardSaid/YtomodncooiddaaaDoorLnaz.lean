/-
  AstNames' contract.
-/
import Derived.Test.YtomodncooiddaaaDoorLnz
namespace Go.Proofs.YtomodncooiddaaaDoor.Sx
/-- The row that a block's cell holds. -/
def cA (s : St) (i j : Nat) : Nat := match look s.hp i with | some (.own _ l) => (match l[j]? with | some (.c (.slice id _ _)) => id | some (.c (.osl _ id _ _)) => id | _ => 0) | _ => 0
def slotB (s : St) (t : Nat) : ByteArray := match look s.tm t with | some (.one (.sc (.raw (.string b)))) => b | _ => ByteArray.empty
end Go.Proofs.YtomodncooiddaaaDoor.Sx
namespace Go.Proofs.YtomodncooiddaaaDoor.Sx.Z
open Go.RowKit
def m12 (a : Int) : Nat := (IntKind.u64.wrap a).toNat % 12
theorem m12_lt (a : Int) : m12 a < 12 := by unfold m12; omega
theorem m12_eq (a : Int) : IntKind.i64.wrap ((IntKind.u64.wrap a).tmod 12) = (m12 a : Int) := by
  have h0 : 0 ≤ IntKind.u64.wrap a := by rw [IntKind.wrap_u64]; omega
  have e : (IntKind.u64.wrap a).tmod 12 = (m12 a : Int) := by
    rw [Int.tmod_eq_emod_of_nonneg h0]
    unfold m12
    omega
  have := m12_lt a
  rw [e, IntWalk.i64_in _ (by omega)]
theorem b4 {a b : Bool} {x y : Int} (h : x = if a = true then 0 else 5) (hb : b = a) : ((x == 0) == b && (x == 0 || x == 5)) = true := by
  rw [h, hb]
  cases a <;> rfl

noncomputable def nmsS : FSpec := fun ds _ => match ds with
  | [.s nm, .i a] => some { val := .one (.sc (.bool (.lit true))), vc := [] }
  | _ => none
noncomputable def nmsC : Con := con [.sc .str, lI] nmsS
theorem nms_ok : ConOK Tryd.prog 5 nmsC := by
  refine fn_ob tt_ok mixed Tryd.func5 rfl (fun _ _ => by kernel_rfl) (A := fun ds => ⟨fun _ => Cons.of [(9, (conZ ycpC)), (12, txC), (10, txtsC), (11, lexC)], fun _ => none, fun k => match k, ds with | 28, [.s nm, .i a] => some { ι := Nat, pre := fun _ q => q = m12 a ∧ True, μ := fun _ => 0, st := fun s q => famR s [] [0, 4, 5] [(idOf s 5, .own 31 ([.c (.slice (cA s (idOf s 5) 0) (.lit 0) (.lit 1)), .c (.slice (cA s (idOf s 5) 1) (.lit 0) (.lit 1)), .c (.slice (cA s (idOf s 5) 2) (.lit 0) (.lit 1))])), (cA s (idOf s 5) 0, .own 53 ([.c (.raw (.string (pk q 0 (slotB s 0) ⟨#[99]⟩))), .c (.int .i64 (.lit 0)), .c (.int .i64 (.lit 1)), .c (.raw (.string (pk q 1 (slotB s 0) ⟨#[112]⟩))), .c (.raw (.string (pk q 2 (slotB s 0) ⟨#[113]⟩))), .c (.osl 9 (cA s (cA s (idOf s 5) 0) 5) (.lit 0) (.lit 1))])), (cA s (idOf s 5) 1, .own 58 ([.c (.raw (.string (pk q 4 (slotB s 0) ⟨#[99]⟩))), .c (.osl 55 (cA s (cA s (idOf s 5) 1) 1) (.lit 0) (.lit 1))])), (cA s (idOf s 5) 2, .own 26 ([.c (.raw (.string (pk q 6 (slotB s 0) ⟨#[112]⟩))), .c (.osl 9 (cA s (cA s (idOf s 5) 2) 1) (.lit 0) (.lit 1)), .c (.slice (cA s (cA s (idOf s 5) 2) 2) (.lit 0) (.lit 3))])), (cA s (cA s (idOf s 5) 2) 2, .own 39 ([.c (.int .i64 (.lit 7)), .c (.raw (.string (pk q 8 (slotB s 0) ⟨#[120]⟩))), .c (.raw (.string ByteArray.empty)), .c (.int .i64 (.lit 0)), .c (.int .i64 (.lit 0)), .c (.raw (.string ByteArray.empty)), .c .nils, .c (.int .i64 (.lit 0)), .c (.int .i64 (.lit 0)), .c (.int .i64 (.lit 0)), .c (.raw (.string ByteArray.empty)), .c .nils, .c (.int .i64 (.lit 0)), .c (.int .i64 (.lit 0)), .c (.raw (.string ByteArray.empty)), .c .nils, .c .nils, .c .nils, .c .nils, .c (.int .i64 (.lit 4)), .c (.raw (.string ⟨#[99]⟩)), .c (.raw (.string ⟨#[97]⟩)), .c (.int .i64 (.lit 2)), .c (.int .i64 (.lit 0)), .c (.raw (.string (pk q 9 (slotB s 0) ⟨#[120]⟩))), .c .nils, .c (.int .i64 (.lit 0)), .c (.int .i64 (.lit 0)), .c (.int .i64 (.lit 0)), .c (.raw (.string ByteArray.empty)), .c .nils, .c (.int .i64 (.lit 0)), .c (.int .i64 (.lit 0)), .c (.raw (.string ByteArray.empty)), .c .nils, .c .nils, .c .nils, .c .nils, .c (.int .i64 (.lit 5)), .c (.raw (.string ⟨#[99]⟩)), .c (.raw (.string ByteArray.empty)), .c (.int .i64 (.lit 0)), .c (.int .i64 (.lit 0)), .c (.raw (.string ByteArray.empty)), .c .nils, .c (.int .i64 (.lit 0)), .c (.int .i64 (.lit 0)), .c (.int .i64 (.lit 0)), .c (.raw (.string ByteArray.empty)), .c .nils, .c (.int .i64 (.lit 0)), .c (.int .i64 (.lit 0)), .c (.raw (.string ByteArray.empty)), .c .nils, .c .nils, .c .nils, .c (.slice (cA s (cA s (cA s (idOf s 5) 2) 2) 56) (.lit 0) (.lit 1))])), (cA s (cA s (cA s (idOf s 5) 2) 2) 56, .own 60 ([.c (.raw (.string (pk q 10 (slotB s 0) ⟨#[97]⟩))), .c (.raw (.string (pk q 11 (slotB s 0) ⟨#[120]⟩))), .c .nils])), (cA s (cA s (idOf s 5) 0) 5, .orow 9 (.l [[.s (pk q 3 (slotB s 0) ⟨#[97]⟩)]])), (cA s (cA s (idOf s 5) 1) 1, .orow 55 (.l [[.i 0, .s (pk q 5 (slotB s 0) ⟨#[97]⟩), .i 0]])), (cA s (cA s (idOf s 5) 2) 1, .orow 9 (.l [[.s (pk q 7 (slotB s 0) ⟨#[120]⟩)]]))] [] } | _, _ => none⟩) (fun _ _ => (cons_cons (conZ_ok ycp_ok) (cons_cons tx_ok (cons_cons txts_ok (cons_cons lex_ok cons_nil))))) (by kernel_rfl) ?_
  intro ds fr
  unfold nmsS
  split
  · rename_i nm a
    refine kmp (q := (((0 : Int) ≤ if (20 : Int) < (↑nm.size : Int) then (20 : Int) else (↑nm.size : Int)) ∧
 (if (20 : Int) < (↑nm.size : Int) then (20 : Int) else (↑nm.size : Int)) ≤ (↑nm.size : Int)) ∧
 (((IntKind.i64.wrap ((IntKind.u64.wrap a).tmod (12 : Int)) == (0 : Int)) = true →
 ∃ (i : Nat),
 (i = m12 a ∧ True) ∧
 Value.string (nm.extract (0 : Nat) (if (20 : Int) < (↑nm.size : Int) then (20 : Int) else (↑nm.size : Int)).toNat) =
 Value.string (nm.extract (0 : Nat) (if (20 : Int) < (↑nm.size : Int) then (20 : Int) else (↑nm.size : Int)).toNat) ∧
 false = false ∧
 (1 : Nat) = (1 : Nat) ∧
 (1 : Nat) = (1 : Nat) ∧
 (1 : Nat) = (1 : Nat) ∧
 Value.string (nm.extract (0 : Nat) (if (20 : Int) < (↑nm.size : Int) then (20 : Int) else (↑nm.size : Int)).toNat) =
 Value.string
 (pk i (0 : Nat) (nm.extract (0 : Nat) (if (20 : Int) < (↑nm.size : Int) then (20 : Int) else (↑nm.size : Int)).toNat)
 (ByteArray.mk #[(99 : UInt8)])) ∧
 (0 : Int) = (0 : Int) ∧
 (1 : Int) = (1 : Int) ∧
 Value.string (ByteArray.mk #[(112 : UInt8)]) =
 Value.string
 (pk i (1 : Nat) (nm.extract (0 : Nat) (if (20 : Int) < (↑nm.size : Int) then (20 : Int) else (↑nm.size : Int)).toNat)
 (ByteArray.mk #[(112 : UInt8)])) ∧
 Value.string (ByteArray.mk #[(113 : UInt8)]) =
 Value.string
 (pk i (2 : Nat) (nm.extract (0 : Nat) (if (20 : Int) < (↑nm.size : Int) then (20 : Int) else (↑nm.size : Int)).toNat)
 (ByteArray.mk #[(113 : UInt8)])) ∧
 (1 : Nat) = (1 : Nat) ∧
 Value.string (ByteArray.mk #[(99 : UInt8)]) =
 Value.string
 (pk i (4 : Nat) (nm.extract (0 : Nat) (if (20 : Int) < (↑nm.size : Int) then (20 : Int) else (↑nm.size : Int)).toNat)
 (ByteArray.mk #[(99 : UInt8)])) ∧
 (1 : Nat) = (1 : Nat) ∧
 Value.string (ByteArray.mk #[(112 : UInt8)]) =
 Value.string
 (pk i (6 : Nat)
 (nm.extract (0 : Nat) (if (20 : Int) < (↑nm.size : Int) then (20 : Int) else (↑nm.size : Int)).toNat)
 (ByteArray.mk #[(112 : UInt8)])) ∧
 (1 : Nat) = (1 : Nat) ∧
 (3 : Nat) = (3 : Nat) ∧
 (7 : Int) = (7 : Int) ∧
 Value.string (ByteArray.mk #[(120 : UInt8)]) =
 Value.string
 (pk i (8 : Nat)
 (nm.extract (0 : Nat) (if (20 : Int) < (↑nm.size : Int) then (20 : Int) else (↑nm.size : Int)).toNat)
 (ByteArray.mk #[(120 : UInt8)])) ∧
 Value.string ByteArray.empty = Value.string ByteArray.empty ∧
 (0 : Int) = (0 : Int) ∧
 (0 : Int) = (0 : Int) ∧
 Value.string ByteArray.empty = Value.string ByteArray.empty ∧
 (0 : Int) = (0 : Int) ∧
 (0 : Int) = (0 : Int) ∧
 (0 : Int) = (0 : Int) ∧
 Value.string ByteArray.empty = Value.string ByteArray.empty ∧
 (0 : Int) = (0 : Int) ∧
 (0 : Int) = (0 : Int) ∧
 Value.string ByteArray.empty = Value.string ByteArray.empty ∧
 (4 : Int) = (4 : Int) ∧
 Value.string (ByteArray.mk #[(99 : UInt8)]) = Value.string (ByteArray.mk #[(99 : UInt8)]) ∧
 Value.string (ByteArray.mk #[(97 : UInt8)]) = Value.string (ByteArray.mk #[(97 : UInt8)]) ∧
 (2 : Int) = (2 : Int) ∧
 (0 : Int) = (0 : Int) ∧
 Value.string (ByteArray.mk #[(120 : UInt8)]) =
 Value.string
 (pk i (9 : Nat)
 (nm.extract (0 : Nat)
 (if (20 : Int) < (↑nm.size : Int) then (20 : Int)
 else (↑nm.size : Int)).toNat)
 (ByteArray.mk #[(120 : UInt8)])) ∧
 (0 : Int) = (0 : Int) ∧
 (0 : Int) = (0 : Int) ∧
 (0 : Int) = (0 : Int) ∧
 Value.string ByteArray.empty = Value.string ByteArray.empty ∧
 (0 : Int) = (0 : Int) ∧
 (0 : Int) = (0 : Int) ∧
 Value.string ByteArray.empty = Value.string ByteArray.empty ∧
 (5 : Int) = (5 : Int) ∧
 Value.string (ByteArray.mk #[(99 : UInt8)]) =
 Value.string (ByteArray.mk #[(99 : UInt8)]) ∧
 Value.string ByteArray.empty =
 Value.string ByteArray.empty ∧
 (0 : Int) = (0 : Int) ∧
 (0 : Int) = (0 : Int) ∧
 Value.string ByteArray.empty =
 Value.string ByteArray.empty ∧
 (0 : Int) = (0 : Int) ∧
 (0 : Int) = (0 : Int) ∧
 (0 : Int) = (0 : Int) ∧
 Value.string ByteArray.empty =
 Value.string ByteArray.empty ∧
 (0 : Int) = (0 : Int) ∧
 (0 : Int) = (0 : Int) ∧
 Value.string ByteArray.empty =
 Value.string ByteArray.empty ∧
 (1 : Nat) = (1 : Nat) ∧
 Value.string
 (ByteArray.mk #[(97 : UInt8)]) =
 Value.string
 (pk i (10 : Nat)
 (nm.extract (0 : Nat)
 (if
 (20 : Int) <
 (↑nm.size :
 Int) then
 (20 : Int)
 else
 (↑nm.size :
 Int)).toNat)
 (ByteArray.mk #[(97 : UInt8)])) ∧
 Value.string
 (ByteArray.mk #[(120 : UInt8)]) =
 Value.string
 (pk i (11 : Nat)
 (nm.extract (0 : Nat)
 (if
 (20 : Int) <
 (↑nm.size :
 Int) then
 (20 : Int)
 else
 (↑nm.size :
 Int)).toNat)
 (ByteArray.mk #[(120 : UInt8)])) ∧
 [[D.s
 (ByteArray.mk #[(97 : UInt8)])]] =
 [[D.s
 (pk i (3 : Nat)
 (nm.extract
 (0 : Nat)
 (if
 (20 : Int) <
 (↑nm.size :
 Int) then
 (20 : Int)
 else
 (↑nm.size :
 Int)).toNat)
 (ByteArray.mk #[(97 : UInt8)]))]] ∧
 [[D.i (0 : Int),
 D.s
 (ByteArray.mk #[(97 : UInt8)]),
 D.i (0 : Int)]] =
 [[D.i (0 : Int),
 D.s
 (pk i (5 : Nat)
 (nm.extract
 (0 : Nat)
 (if
 (20 :
 Int) <
 (↑nm.size :
 Int) then
 (20 : Int)
 else
 (↑nm.size :
 Int)).toNat)
 (ByteArray.mk #[(97 : UInt8)])),
 D.i (0 : Int)]] ∧
 [[D.s
 (ByteArray.mk #[(120 : UInt8)])]] =
 [[D.s
 (pk i (7 : Nat)
 (nm.extract
 (0 : Nat)
 (if
 (20 :
 Int) <
 (↑nm.size :
 Int) then
 (20 : Int)
 else
 (↑nm.size :
 Int)).toNat)
 (ByteArray.mk #[(120 : UInt8)]))]]) ∧
 ((IntKind.i64.wrap ((IntKind.u64.wrap a).tmod (12 : Int)) == (0 : Int)) = false →
 ((IntKind.i64.wrap ((IntKind.u64.wrap a).tmod (12 : Int)) == (1 : Int)) = true →
 ∃ (i : Nat),
 (i = m12 a ∧ True) ∧
 Value.string (nm.extract (0 : Nat) (if (20 : Int) < (↑nm.size : Int) then (20 : Int) else (↑nm.size : Int)).toNat) =
 Value.string (nm.extract (0 : Nat) (if (20 : Int) < (↑nm.size : Int) then (20 : Int) else (↑nm.size : Int)).toNat) ∧
 false = false ∧
 (1 : Nat) = (1 : Nat) ∧
 (1 : Nat) = (1 : Nat) ∧
 (1 : Nat) = (1 : Nat) ∧
 Value.string (ByteArray.mk #[(99 : UInt8)]) =
 Value.string
 (pk i (0 : Nat) (nm.extract (0 : Nat) (if (20 : Int) < (↑nm.size : Int) then (20 : Int) else (↑nm.size : Int)).toNat)
 (ByteArray.mk #[(99 : UInt8)])) ∧
 (0 : Int) = (0 : Int) ∧
 (1 : Int) = (1 : Int) ∧
 Value.string (nm.extract (0 : Nat) (if (20 : Int) < (↑nm.size : Int) then (20 : Int) else (↑nm.size : Int)).toNat) =
 Value.string
 (pk i (1 : Nat) (nm.extract (0 : Nat) (if (20 : Int) < (↑nm.size : Int) then (20 : Int) else (↑nm.size : Int)).toNat)
 (ByteArray.mk #[(112 : UInt8)])) ∧
 Value.string (ByteArray.mk #[(113 : UInt8)]) =
 Value.string
 (pk i (2 : Nat) (nm.extract (0 : Nat) (if (20 : Int) < (↑nm.size : Int) then (20 : Int) else (↑nm.size : Int)).toNat)
 (ByteArray.mk #[(113 : UInt8)])) ∧
 (1 : Nat) = (1 : Nat) ∧
 Value.string (ByteArray.mk #[(99 : UInt8)]) =
 Value.string
 (pk i (4 : Nat)
 (nm.extract (0 : Nat) (if (20 : Int) < (↑nm.size : Int) then (20 : Int) else (↑nm.size : Int)).toNat)
 (ByteArray.mk #[(99 : UInt8)])) ∧
 (1 : Nat) = (1 : Nat) ∧
 Value.string (ByteArray.mk #[(112 : UInt8)]) =
 Value.string
 (pk i (6 : Nat)
 (nm.extract (0 : Nat) (if (20 : Int) < (↑nm.size : Int) then (20 : Int) else (↑nm.size : Int)).toNat)
 (ByteArray.mk #[(112 : UInt8)])) ∧
 (1 : Nat) = (1 : Nat) ∧
 (3 : Nat) = (3 : Nat) ∧
 (7 : Int) = (7 : Int) ∧
 Value.string (ByteArray.mk #[(120 : UInt8)]) =
 Value.string
 (pk i (8 : Nat)
 (nm.extract (0 : Nat) (if (20 : Int) < (↑nm.size : Int) then (20 : Int) else (↑nm.size : Int)).toNat)
 (ByteArray.mk #[(120 : UInt8)])) ∧
 Value.string ByteArray.empty = Value.string ByteArray.empty ∧
 (0 : Int) = (0 : Int) ∧
 (0 : Int) = (0 : Int) ∧
 Value.string ByteArray.empty = Value.string ByteArray.empty ∧
 (0 : Int) = (0 : Int) ∧
 (0 : Int) = (0 : Int) ∧
 (0 : Int) = (0 : Int) ∧
 Value.string ByteArray.empty = Value.string ByteArray.empty ∧
 (0 : Int) = (0 : Int) ∧
 (0 : Int) = (0 : Int) ∧
 Value.string ByteArray.empty = Value.string ByteArray.empty ∧
 (4 : Int) = (4 : Int) ∧
 Value.string (ByteArray.mk #[(99 : UInt8)]) =
 Value.string (ByteArray.mk #[(99 : UInt8)]) ∧
 Value.string (ByteArray.mk #[(97 : UInt8)]) =
 Value.string (ByteArray.mk #[(97 : UInt8)]) ∧
 (2 : Int) = (2 : Int) ∧
 (0 : Int) = (0 : Int) ∧
 Value.string (ByteArray.mk #[(120 : UInt8)]) =
 Value.string
 (pk i (9 : Nat)
 (nm.extract (0 : Nat)
 (if (20 : Int) < (↑nm.size : Int) then (20 : Int)
 else (↑nm.size : Int)).toNat)
 (ByteArray.mk #[(120 : UInt8)])) ∧
 (0 : Int) = (0 : Int) ∧
 (0 : Int) = (0 : Int) ∧
 (0 : Int) = (0 : Int) ∧
 Value.string ByteArray.empty = Value.string ByteArray.empty ∧
 (0 : Int) = (0 : Int) ∧
 (0 : Int) = (0 : Int) ∧
 Value.string ByteArray.empty = Value.string ByteArray.empty ∧
 (5 : Int) = (5 : Int) ∧
 Value.string (ByteArray.mk #[(99 : UInt8)]) =
 Value.string (ByteArray.mk #[(99 : UInt8)]) ∧
 Value.string ByteArray.empty =
 Value.string ByteArray.empty ∧
 (0 : Int) = (0 : Int) ∧
 (0 : Int) = (0 : Int) ∧
 Value.string ByteArray.empty =
 Value.string ByteArray.empty ∧
 (0 : Int) = (0 : Int) ∧
 (0 : Int) = (0 : Int) ∧
 (0 : Int) = (0 : Int) ∧
 Value.string ByteArray.empty =
 Value.string ByteArray.empty ∧
 (0 : Int) = (0 : Int) ∧
 (0 : Int) = (0 : Int) ∧
 Value.string ByteArray.empty =
 Value.string ByteArray.empty ∧
 (1 : Nat) = (1 : Nat) ∧
 Value.string
 (ByteArray.mk #[(97 : UInt8)]) =
 Value.string
 (pk i (10 : Nat)
 (nm.extract (0 : Nat)
 (if
 (20 : Int) <
 (↑nm.size :
 Int) then
 (20 : Int)
 else
 (↑nm.size :
 Int)).toNat)
 (ByteArray.mk #[(97 : UInt8)])) ∧
 Value.string
 (ByteArray.mk #[(120 : UInt8)]) =
 Value.string
 (pk i (11 : Nat)
 (nm.extract (0 : Nat)
 (if
 (20 : Int) <
 (↑nm.size :
 Int) then
 (20 : Int)
 else
 (↑nm.size :
 Int)).toNat)
 (ByteArray.mk #[(120 : UInt8)])) ∧
 [[D.s
 (ByteArray.mk #[(97 : UInt8)])]] =
 [[D.s
 (pk i (3 : Nat)
 (nm.extract
 (0 : Nat)
 (if
 (20 :
 Int) <
 (↑nm.size :
 Int) then
 (20 : Int)
 else
 (↑nm.size :
 Int)).toNat)
 (ByteArray.mk #[(97 : UInt8)]))]] ∧
 [[D.i (0 : Int),
 D.s
 (ByteArray.mk #[(97 : UInt8)]),
 D.i (0 : Int)]] =
 [[D.i (0 : Int),
 D.s
 (pk i (5 : Nat)
 (nm.extract
 (0 : Nat)
 (if
 (20 :
 Int) <
 (↑nm.size :
 Int) then
 (20 :
 Int)
 else
 (↑nm.size :
 Int)).toNat)
 (ByteArray.mk #[(97 : UInt8)])),
 D.i (0 : Int)]] ∧
 [[D.s
 (ByteArray.mk #[(120 : UInt8)])]] =
 [[D.s
 (pk i (7 : Nat)
 (nm.extract
 (0 : Nat)
 (if
 (20 :
 Int) <
 (↑nm.size :
 Int) then
 (20 :
 Int)
 else
 (↑nm.size :
 Int)).toNat)
 (ByteArray.mk #[(120 : UInt8)]))]]) ∧
 ((IntKind.i64.wrap ((IntKind.u64.wrap a).tmod (12 : Int)) == (1 : Int)) = false →
 ((IntKind.i64.wrap ((IntKind.u64.wrap a).tmod (12 : Int)) == (2 : Int)) = true →
 ∃ (i : Nat),
 (i = m12 a ∧ True) ∧
 Value.string (nm.extract (0 : Nat) (if (20 : Int) < (↑nm.size : Int) then (20 : Int) else (↑nm.size : Int)).toNat) =
 Value.string (nm.extract (0 : Nat) (if (20 : Int) < (↑nm.size : Int) then (20 : Int) else (↑nm.size : Int)).toNat) ∧
 false = false ∧
 (1 : Nat) = (1 : Nat) ∧
 (1 : Nat) = (1 : Nat) ∧
 (1 : Nat) = (1 : Nat) ∧
 Value.string (ByteArray.mk #[(99 : UInt8)]) =
 Value.string
 (pk i (0 : Nat) (nm.extract (0 : Nat) (if (20 : Int) < (↑nm.size : Int) then (20 : Int) else (↑nm.size : Int)).toNat)
 (ByteArray.mk #[(99 : UInt8)])) ∧
 (0 : Int) = (0 : Int) ∧
 (1 : Int) = (1 : Int) ∧
 Value.string (ByteArray.mk #[(112 : UInt8)]) =
 Value.string
 (pk i (1 : Nat) (nm.extract (0 : Nat) (if (20 : Int) < (↑nm.size : Int) then (20 : Int) else (↑nm.size : Int)).toNat)
 (ByteArray.mk #[(112 : UInt8)])) ∧
 Value.string (nm.extract (0 : Nat) (if (20 : Int) < (↑nm.size : Int) then (20 : Int) else (↑nm.size : Int)).toNat) =
 Value.string
 (pk i (2 : Nat)
 (nm.extract (0 : Nat) (if (20 : Int) < (↑nm.size : Int) then (20 : Int) else (↑nm.size : Int)).toNat)
 (ByteArray.mk #[(113 : UInt8)])) ∧
 (1 : Nat) = (1 : Nat) ∧
 Value.string (ByteArray.mk #[(99 : UInt8)]) =
 Value.string
 (pk i (4 : Nat)
 (nm.extract (0 : Nat) (if (20 : Int) < (↑nm.size : Int) then (20 : Int) else (↑nm.size : Int)).toNat)
 (ByteArray.mk #[(99 : UInt8)])) ∧
 (1 : Nat) = (1 : Nat) ∧
 Value.string (ByteArray.mk #[(112 : UInt8)]) =
 Value.string
 (pk i (6 : Nat)
 (nm.extract (0 : Nat) (if (20 : Int) < (↑nm.size : Int) then (20 : Int) else (↑nm.size : Int)).toNat)
 (ByteArray.mk #[(112 : UInt8)])) ∧
 (1 : Nat) = (1 : Nat) ∧
 (3 : Nat) = (3 : Nat) ∧
 (7 : Int) = (7 : Int) ∧
 Value.string (ByteArray.mk #[(120 : UInt8)]) =
 Value.string
 (pk i (8 : Nat)
 (nm.extract (0 : Nat)
 (if (20 : Int) < (↑nm.size : Int) then (20 : Int) else (↑nm.size : Int)).toNat)
 (ByteArray.mk #[(120 : UInt8)])) ∧
 Value.string ByteArray.empty = Value.string ByteArray.empty ∧
 (0 : Int) = (0 : Int) ∧
 (0 : Int) = (0 : Int) ∧
 Value.string ByteArray.empty = Value.string ByteArray.empty ∧
 (0 : Int) = (0 : Int) ∧
 (0 : Int) = (0 : Int) ∧
 (0 : Int) = (0 : Int) ∧
 Value.string ByteArray.empty = Value.string ByteArray.empty ∧
 (0 : Int) = (0 : Int) ∧
 (0 : Int) = (0 : Int) ∧
 Value.string ByteArray.empty = Value.string ByteArray.empty ∧
 (4 : Int) = (4 : Int) ∧
 Value.string (ByteArray.mk #[(99 : UInt8)]) =
 Value.string (ByteArray.mk #[(99 : UInt8)]) ∧
 Value.string (ByteArray.mk #[(97 : UInt8)]) =
 Value.string (ByteArray.mk #[(97 : UInt8)]) ∧
 (2 : Int) = (2 : Int) ∧
 (0 : Int) = (0 : Int) ∧
 Value.string (ByteArray.mk #[(120 : UInt8)]) =
 Value.string
 (pk i (9 : Nat)
 (nm.extract (0 : Nat)
 (if (20 : Int) < (↑nm.size : Int) then (20 : Int)
 else (↑nm.size : Int)).toNat)
 (ByteArray.mk #[(120 : UInt8)])) ∧
 (0 : Int) = (0 : Int) ∧
 (0 : Int) = (0 : Int) ∧
 (0 : Int) = (0 : Int) ∧
 Value.string ByteArray.empty = Value.string ByteArray.empty ∧
 (0 : Int) = (0 : Int) ∧
 (0 : Int) = (0 : Int) ∧
 Value.string ByteArray.empty =
 Value.string ByteArray.empty ∧
 (5 : Int) = (5 : Int) ∧
 Value.string (ByteArray.mk #[(99 : UInt8)]) =
 Value.string (ByteArray.mk #[(99 : UInt8)]) ∧
 Value.string ByteArray.empty =
 Value.string ByteArray.empty ∧
 (0 : Int) = (0 : Int) ∧
 (0 : Int) = (0 : Int) ∧
 Value.string ByteArray.empty =
 Value.string ByteArray.empty ∧
 (0 : Int) = (0 : Int) ∧
 (0 : Int) = (0 : Int) ∧
 (0 : Int) = (0 : Int) ∧
 Value.string ByteArray.empty =
 Value.string ByteArray.empty ∧
 (0 : Int) = (0 : Int) ∧
 (0 : Int) = (0 : Int) ∧
 Value.string ByteArray.empty =
 Value.string
 ByteArray.empty ∧
 (1 : Nat) = (1 : Nat) ∧
 Value.string
 (ByteArray.mk #[(97 : UInt8)]) =
 Value.string
 (pk i (10 : Nat)
 (nm.extract
 (0 : Nat)
 (if
 (20 : Int) <
 (↑nm.size :
 Int) then
 (20 : Int)
 else
 (↑nm.size :
 Int)).toNat)
 (ByteArray.mk #[(97 : UInt8)])) ∧
 Value.string
 (ByteArray.mk #[(120 : UInt8)]) =
 Value.string
 (pk i (11 : Nat)
 (nm.extract
 (0 : Nat)
 (if
 (20 :
 Int) <
 (↑nm.size :
 Int) then
 (20 : Int)
 else
 (↑nm.size :
 Int)).toNat)
 (ByteArray.mk #[(120 : UInt8)])) ∧
 [[D.s
 (ByteArray.mk #[(97 : UInt8)])]] =
 [[D.s
 (pk i
 (3 : Nat)
 (nm.extract
 (0 : Nat)
 (if
 (20 :
 Int) <
 (↑nm.size :
 Int) then
 (20 :
 Int)
 else
 (↑nm.size :
 Int)).toNat)
 (ByteArray.mk #[(97 : UInt8)]))]] ∧
 [[D.i (0 : Int),
 D.s
 (ByteArray.mk #[(97 : UInt8)]),
 D.i
 (0 :
 Int)]] =
 [[D.i (0 : Int),
 D.s
 (pk i
 (5 : Nat)
 (nm.extract
 (0 :
 Nat)
 (if
 (20 :
 Int) <
 (↑nm.size :
 Int) then
 (20 :
 Int)
 else
 (↑nm.size :
 Int)).toNat)
 (ByteArray.mk #[(97 : UInt8)])),
 D.i
 (0 :
 Int)]] ∧
 [[D.s
 (ByteArray.mk #[(120 : UInt8)])]] =
 [[D.s
 (pk i
 (7 : Nat)
 (nm.extract
 (0 :
 Nat)
 (if
 (20 :
 Int) <
 (↑nm.size :
 Int) then
 (20 :
 Int)
 else
 (↑nm.size :
 Int)).toNat)
 (ByteArray.mk #[(120 : UInt8)]))]]) ∧
 ((IntKind.i64.wrap ((IntKind.u64.wrap a).tmod (12 : Int)) == (2 : Int)) = false →
 ((IntKind.i64.wrap ((IntKind.u64.wrap a).tmod (12 : Int)) == (3 : Int)) = true →
 (0 : Nat) < (D.l [[D.s (ByteArray.mk #[(97 : UInt8)])]]).len ∧
 ∃ (i : Nat),
 (i = m12 a ∧ True) ∧
 Value.string (nm.extract (0 : Nat) (if (20 : Int) < (↑nm.size : Int) then (20 : Int) else (↑nm.size : Int)).toNat) =
 Value.string (nm.extract (0 : Nat) (if (20 : Int) < (↑nm.size : Int) then (20 : Int) else (↑nm.size : Int)).toNat) ∧
 false = false ∧
 (1 : Nat) = (1 : Nat) ∧
 (1 : Nat) = (1 : Nat) ∧
 (1 : Nat) = (1 : Nat) ∧
 Value.string (ByteArray.mk #[(99 : UInt8)]) =
 Value.string
 (pk i (0 : Nat) (nm.extract (0 : Nat) (if (20 : Int) < (↑nm.size : Int) then (20 : Int) else (↑nm.size : Int)).toNat)
 (ByteArray.mk #[(99 : UInt8)])) ∧
 (0 : Int) = (0 : Int) ∧
 (1 : Int) = (1 : Int) ∧
 Value.string (ByteArray.mk #[(112 : UInt8)]) =
 Value.string
 (pk i (1 : Nat)
 (nm.extract (0 : Nat) (if (20 : Int) < (↑nm.size : Int) then (20 : Int) else (↑nm.size : Int)).toNat)
 (ByteArray.mk #[(112 : UInt8)])) ∧
 Value.string (ByteArray.mk #[(113 : UInt8)]) =
 Value.string
 (pk i (2 : Nat)
 (nm.extract (0 : Nat) (if (20 : Int) < (↑nm.size : Int) then (20 : Int) else (↑nm.size : Int)).toNat)
 (ByteArray.mk #[(113 : UInt8)])) ∧
 (1 : Nat) = (1 : Nat) ∧
 Value.string (ByteArray.mk #[(99 : UInt8)]) =
 Value.string
 (pk i (4 : Nat)
 (nm.extract (0 : Nat) (if (20 : Int) < (↑nm.size : Int) then (20 : Int) else (↑nm.size : Int)).toNat)
 (ByteArray.mk #[(99 : UInt8)])) ∧
 (1 : Nat) = (1 : Nat) ∧
 Value.string (ByteArray.mk #[(112 : UInt8)]) =
 Value.string
 (pk i (6 : Nat)
 (nm.extract (0 : Nat)
 (if (20 : Int) < (↑nm.size : Int) then (20 : Int) else (↑nm.size : Int)).toNat)
 (ByteArray.mk #[(112 : UInt8)])) ∧
 (1 : Nat) = (1 : Nat) ∧
 (3 : Nat) = (3 : Nat) ∧
 (7 : Int) = (7 : Int) ∧
 Value.string (ByteArray.mk #[(120 : UInt8)]) =
 Value.string
 (pk i (8 : Nat)
 (nm.extract (0 : Nat)
 (if (20 : Int) < (↑nm.size : Int) then (20 : Int) else (↑nm.size : Int)).toNat)
 (ByteArray.mk #[(120 : UInt8)])) ∧
 Value.string ByteArray.empty = Value.string ByteArray.empty ∧
 (0 : Int) = (0 : Int) ∧
 (0 : Int) = (0 : Int) ∧
 Value.string ByteArray.empty = Value.string ByteArray.empty ∧
 (0 : Int) = (0 : Int) ∧
 (0 : Int) = (0 : Int) ∧
 (0 : Int) = (0 : Int) ∧
 Value.string ByteArray.empty = Value.string ByteArray.empty ∧
 (0 : Int) = (0 : Int) ∧
 (0 : Int) = (0 : Int) ∧
 Value.string ByteArray.empty = Value.string ByteArray.empty ∧
 (4 : Int) = (4 : Int) ∧
 Value.string (ByteArray.mk #[(99 : UInt8)]) =
 Value.string (ByteArray.mk #[(99 : UInt8)]) ∧
 Value.string (ByteArray.mk #[(97 : UInt8)]) =
 Value.string (ByteArray.mk #[(97 : UInt8)]) ∧
 (2 : Int) = (2 : Int) ∧
 (0 : Int) = (0 : Int) ∧
 Value.string (ByteArray.mk #[(120 : UInt8)]) =
 Value.string
 (pk i (9 : Nat)
 (nm.extract (0 : Nat)
 (if (20 : Int) < (↑nm.size : Int) then (20 : Int)
 else (↑nm.size : Int)).toNat)
 (ByteArray.mk #[(120 : UInt8)])) ∧
 (0 : Int) = (0 : Int) ∧
 (0 : Int) = (0 : Int) ∧
 (0 : Int) = (0 : Int) ∧
 Value.string ByteArray.empty =
 Value.string ByteArray.empty ∧
 (0 : Int) = (0 : Int) ∧
 (0 : Int) = (0 : Int) ∧
 Value.string ByteArray.empty =
 Value.string ByteArray.empty ∧
 (5 : Int) = (5 : Int) ∧
 Value.string (ByteArray.mk #[(99 : UInt8)]) =
 Value.string (ByteArray.mk #[(99 : UInt8)]) ∧
 Value.string ByteArray.empty =
 Value.string ByteArray.empty ∧
 (0 : Int) = (0 : Int) ∧
 (0 : Int) = (0 : Int) ∧
 Value.string ByteArray.empty =
 Value.string ByteArray.empty ∧
 (0 : Int) = (0 : Int) ∧
 (0 : Int) = (0 : Int) ∧
 (0 : Int) = (0 : Int) ∧
 Value.string ByteArray.empty =
 Value.string
 ByteArray.empty ∧
 (0 : Int) = (0 : Int) ∧
 (0 : Int) = (0 : Int) ∧
 Value.string
 ByteArray.empty =
 Value.string
 ByteArray.empty ∧
 (1 : Nat) = (1 : Nat) ∧
 Value.string
 (ByteArray.mk #[(97 : UInt8)]) =
 Value.string
 (pk i (10 : Nat)
 (nm.extract
 (0 : Nat)
 (if
 (20 :
 Int) <
 (↑nm.size :
 Int) then
 (20 :
 Int)
 else
 (↑nm.size :
 Int)).toNat)
 (ByteArray.mk #[(97 : UInt8)])) ∧
 Value.string
 (ByteArray.mk #[(120 : UInt8)]) =
 Value.string
 (pk i
 (11 : Nat)
 (nm.extract
 (0 : Nat)
 (if
 (20 :
 Int) <
 (↑nm.size :
 Int) then
 (20 :
 Int)
 else
 (↑nm.size :
 Int)).toNat)
 (ByteArray.mk #[(120 : UInt8)])) ∧
 [[D.s
 (ByteArray.mk #[(97 : UInt8)])]].set
 ((0 : Nat))
 [D.s
 (nm.extract
 (0 :
 Nat)
 (if
 (20 :
 Int) <
 (↑nm.size :
 Int) then
 (20 :
 Int)
 else
 (↑nm.size :
 Int)).toNat)] =
 [[D.s
 (pk i
 (3 :
 Nat)
 (nm.extract
 (0 :
 Nat)
 (if
 (20 :
 Int) <
 (↑nm.size :
 Int) then
 (20 :
 Int)
 else
 (↑nm.size :
 Int)).toNat)
 (ByteArray.mk #[(97 : UInt8)]))]] ∧
 [[D.i (0 : Int),
 D.s
 (ByteArray.mk #[(97 : UInt8)]),
 D.i
 (0 :
 Int)]] =
 [[D.i
 (0 :
 Int),
 D.s
 (pk i
 (5 :
 Nat)
 (nm.extract
 (0 :
 Nat)
 (if
 (20 :
 Int) <
 (↑nm.size :
 Int) then
 (20 :
 Int)
 else
 (↑nm.size :
 Int)).toNat)
 (ByteArray.mk #[(97 : UInt8)])),
 D.i
 (0 :
 Int)]] ∧
 [[D.s
 (ByteArray.mk #[(120 : UInt8)])]] =
 [[D.s
 (pk i
 (7 :
 Nat)
 (nm.extract
 (0 :
 Nat)
 (if
 (20 :
 Int) <
 (↑nm.size :
 Int) then
 (20 :
 Int)
 else
 (↑nm.size :
 Int)).toNat)
 (ByteArray.mk #[(120 : UInt8)]))]]) ∧
 ((IntKind.i64.wrap ((IntKind.u64.wrap a).tmod (12 : Int)) == (3 : Int)) = false →
 ((IntKind.i64.wrap ((IntKind.u64.wrap a).tmod (12 : Int)) == (4 : Int)) = true →
 ∃ (i : Nat),
 (i = m12 a ∧ True) ∧
 Value.string (nm.extract (0 : Nat) (if (20 : Int) < (↑nm.size : Int) then (20 : Int) else (↑nm.size : Int)).toNat) =
 Value.string (nm.extract (0 : Nat) (if (20 : Int) < (↑nm.size : Int) then (20 : Int) else (↑nm.size : Int)).toNat) ∧
 false = false ∧
 (1 : Nat) = (1 : Nat) ∧
 (1 : Nat) = (1 : Nat) ∧
 (1 : Nat) = (1 : Nat) ∧
 Value.string (ByteArray.mk #[(99 : UInt8)]) =
 Value.string
 (pk i (0 : Nat)
 (nm.extract (0 : Nat) (if (20 : Int) < (↑nm.size : Int) then (20 : Int) else (↑nm.size : Int)).toNat)
 (ByteArray.mk #[(99 : UInt8)])) ∧
 (0 : Int) = (0 : Int) ∧
 (1 : Int) = (1 : Int) ∧
 Value.string (ByteArray.mk #[(112 : UInt8)]) =
 Value.string
 (pk i (1 : Nat)
 (nm.extract (0 : Nat) (if (20 : Int) < (↑nm.size : Int) then (20 : Int) else (↑nm.size : Int)).toNat)
 (ByteArray.mk #[(112 : UInt8)])) ∧
 Value.string (ByteArray.mk #[(113 : UInt8)]) =
 Value.string
 (pk i (2 : Nat)
 (nm.extract (0 : Nat) (if (20 : Int) < (↑nm.size : Int) then (20 : Int) else (↑nm.size : Int)).toNat)
 (ByteArray.mk #[(113 : UInt8)])) ∧
 (1 : Nat) = (1 : Nat) ∧
 Value.string
 (nm.extract (0 : Nat) (if (20 : Int) < (↑nm.size : Int) then (20 : Int) else (↑nm.size : Int)).toNat) =
 Value.string
 (pk i (4 : Nat)
 (nm.extract (0 : Nat) (if (20 : Int) < (↑nm.size : Int) then (20 : Int) else (↑nm.size : Int)).toNat)
 (ByteArray.mk #[(99 : UInt8)])) ∧
 (1 : Nat) = (1 : Nat) ∧
 Value.string (ByteArray.mk #[(112 : UInt8)]) =
 Value.string
 (pk i (6 : Nat)
 (nm.extract (0 : Nat)
 (if (20 : Int) < (↑nm.size : Int) then (20 : Int) else (↑nm.size : Int)).toNat)
 (ByteArray.mk #[(112 : UInt8)])) ∧
 (1 : Nat) = (1 : Nat) ∧
 (3 : Nat) = (3 : Nat) ∧
 (7 : Int) = (7 : Int) ∧
 Value.string (ByteArray.mk #[(120 : UInt8)]) =
 Value.string
 (pk i (8 : Nat)
 (nm.extract (0 : Nat)
 (if (20 : Int) < (↑nm.size : Int) then (20 : Int) else (↑nm.size : Int)).toNat)
 (ByteArray.mk #[(120 : UInt8)])) ∧
 Value.string ByteArray.empty = Value.string ByteArray.empty ∧
 (0 : Int) = (0 : Int) ∧
 (0 : Int) = (0 : Int) ∧
 Value.string ByteArray.empty = Value.string ByteArray.empty ∧
 (0 : Int) = (0 : Int) ∧
 (0 : Int) = (0 : Int) ∧
 (0 : Int) = (0 : Int) ∧
 Value.string ByteArray.empty = Value.string ByteArray.empty ∧
 (0 : Int) = (0 : Int) ∧
 (0 : Int) = (0 : Int) ∧
 Value.string ByteArray.empty = Value.string ByteArray.empty ∧
 (4 : Int) = (4 : Int) ∧
 Value.string (ByteArray.mk #[(99 : UInt8)]) =
 Value.string (ByteArray.mk #[(99 : UInt8)]) ∧
 Value.string (ByteArray.mk #[(97 : UInt8)]) =
 Value.string (ByteArray.mk #[(97 : UInt8)]) ∧
 (2 : Int) = (2 : Int) ∧
 (0 : Int) = (0 : Int) ∧
 Value.string (ByteArray.mk #[(120 : UInt8)]) =
 Value.string
 (pk i (9 : Nat)
 (nm.extract (0 : Nat)
 (if (20 : Int) < (↑nm.size : Int) then (20 : Int)
 else (↑nm.size : Int)).toNat)
 (ByteArray.mk #[(120 : UInt8)])) ∧
 (0 : Int) = (0 : Int) ∧
 (0 : Int) = (0 : Int) ∧
 (0 : Int) = (0 : Int) ∧
 Value.string ByteArray.empty =
 Value.string ByteArray.empty ∧
 (0 : Int) = (0 : Int) ∧
 (0 : Int) = (0 : Int) ∧
 Value.string ByteArray.empty =
 Value.string ByteArray.empty ∧
 (5 : Int) = (5 : Int) ∧
 Value.string (ByteArray.mk #[(99 : UInt8)]) =
 Value.string (ByteArray.mk #[(99 : UInt8)]) ∧
 Value.string ByteArray.empty =
 Value.string ByteArray.empty ∧
 (0 : Int) = (0 : Int) ∧
 (0 : Int) = (0 : Int) ∧
 Value.string ByteArray.empty =
 Value.string ByteArray.empty ∧
 (0 : Int) = (0 : Int) ∧
 (0 : Int) = (0 : Int) ∧
 (0 : Int) = (0 : Int) ∧
 Value.string ByteArray.empty =
 Value.string
 ByteArray.empty ∧
 (0 : Int) = (0 : Int) ∧
 (0 : Int) = (0 : Int) ∧
 Value.string
 ByteArray.empty =
 Value.string
 ByteArray.empty ∧
 (1 : Nat) =
 (1 : Nat) ∧
 Value.string
 (ByteArray.mk #[(97 : UInt8)]) =
 Value.string
 (pk i
 (10 : Nat)
 (nm.extract
 (0 : Nat)
 (if
 (20 :
 Int) <
 (↑nm.size :
 Int) then
 (20 :
 Int)
 else
 (↑nm.size :
 Int)).toNat)
 (ByteArray.mk #[(97 : UInt8)])) ∧
 Value.string
 (ByteArray.mk #[(120 : UInt8)]) =
 Value.string
 (pk i
 (11 : Nat)
 (nm.extract
 (0 :
 Nat)
 (if
 (20 :
 Int) <
 (↑nm.size :
 Int) then
 (20 :
 Int)
 else
 (↑nm.size :
 Int)).toNat)
 (ByteArray.mk #[(120 : UInt8)])) ∧
 [[D.s
 (ByteArray.mk #[(97 : UInt8)])]] =
 [[D.s
 (pk i
 (3 :
 Nat)
 (nm.extract
 (0 :
 Nat)
 (if
 (20 :
 Int) <
 (↑nm.size :
 Int) then
 (20 :
 Int)
 else
 (↑nm.size :
 Int)).toNat)
 (ByteArray.mk #[(97 : UInt8)]))]] ∧
 [[D.i
 (0 :
 Int),
 D.s
 (ByteArray.mk #[(97 : UInt8)]),
 D.i
 (0 :
 Int)]] =
 [[D.i
 (0 :
 Int),
 D.s
 (pk
 i
 (5 :
 Nat)
 (nm.extract
 (0 :
 Nat)
 (if
 (20 :
 Int) <
 (↑nm.size :
 Int) then
 (20 :
 Int)
 else
 (↑nm.size :
 Int)).toNat)
 (ByteArray.mk #[(97 : UInt8)])),
 D.i
 (0 :
 Int)]] ∧
 [[D.s
 (ByteArray.mk #[(120 : UInt8)])]] =
 [[D.s
 (pk
 i
 (7 :
 Nat)
 (nm.extract
 (0 :
 Nat)
 (if
 (20 :
 Int) <
 (↑nm.size :
 Int) then
 (20 :
 Int)
 else
 (↑nm.size :
 Int)).toNat)
 (ByteArray.mk #[(120 : UInt8)]))]]) ∧
 ((IntKind.i64.wrap ((IntKind.u64.wrap a).tmod (12 : Int)) == (4 : Int)) = false →
 ((IntKind.i64.wrap ((IntKind.u64.wrap a).tmod (12 : Int)) == (5 : Int)) = true →
 (0 : Nat) < (D.l [[D.i (0 : Int), D.s (ByteArray.mk #[(97 : UInt8)]), D.i (0 : Int)]]).len ∧
 ∃ (i : Nat),
 (i = m12 a ∧ True) ∧
 Value.string (nm.extract (0 : Nat) (if (20 : Int) < (↑nm.size : Int) then (20 : Int) else (↑nm.size : Int)).toNat) =
 Value.string (nm.extract (0 : Nat) (if (20 : Int) < (↑nm.size : Int) then (20 : Int) else (↑nm.size : Int)).toNat) ∧
 false = false ∧
 (1 : Nat) = (1 : Nat) ∧
 (1 : Nat) = (1 : Nat) ∧
 (1 : Nat) = (1 : Nat) ∧
 Value.string (ByteArray.mk #[(99 : UInt8)]) =
 Value.string
 (pk i (0 : Nat)
 (nm.extract (0 : Nat) (if (20 : Int) < (↑nm.size : Int) then (20 : Int) else (↑nm.size : Int)).toNat)
 (ByteArray.mk #[(99 : UInt8)])) ∧
 (0 : Int) = (0 : Int) ∧
 (1 : Int) = (1 : Int) ∧
 Value.string (ByteArray.mk #[(112 : UInt8)]) =
 Value.string
 (pk i (1 : Nat)
 (nm.extract (0 : Nat) (if (20 : Int) < (↑nm.size : Int) then (20 : Int) else (↑nm.size : Int)).toNat)
 (ByteArray.mk #[(112 : UInt8)])) ∧
 Value.string (ByteArray.mk #[(113 : UInt8)]) =
 Value.string
 (pk i (2 : Nat)
 (nm.extract (0 : Nat)
 (if (20 : Int) < (↑nm.size : Int) then (20 : Int) else (↑nm.size : Int)).toNat)
 (ByteArray.mk #[(113 : UInt8)])) ∧
 (1 : Nat) = (1 : Nat) ∧
 Value.string (ByteArray.mk #[(99 : UInt8)]) =
 Value.string
 (pk i (4 : Nat)
 (nm.extract (0 : Nat)
 (if (20 : Int) < (↑nm.size : Int) then (20 : Int) else (↑nm.size : Int)).toNat)
 (ByteArray.mk #[(99 : UInt8)])) ∧
 (1 : Nat) = (1 : Nat) ∧
 Value.string (ByteArray.mk #[(112 : UInt8)]) =
 Value.string
 (pk i (6 : Nat)
 (nm.extract (0 : Nat)
 (if (20 : Int) < (↑nm.size : Int) then (20 : Int) else (↑nm.size : Int)).toNat)
 (ByteArray.mk #[(112 : UInt8)])) ∧
 (1 : Nat) = (1 : Nat) ∧
 (3 : Nat) = (3 : Nat) ∧
 (7 : Int) = (7 : Int) ∧
 Value.string (ByteArray.mk #[(120 : UInt8)]) =
 Value.string
 (pk i (8 : Nat)
 (nm.extract (0 : Nat)
 (if (20 : Int) < (↑nm.size : Int) then (20 : Int) else (↑nm.size : Int)).toNat)
 (ByteArray.mk #[(120 : UInt8)])) ∧
 Value.string ByteArray.empty = Value.string ByteArray.empty ∧
 (0 : Int) = (0 : Int) ∧
 (0 : Int) = (0 : Int) ∧
 Value.string ByteArray.empty = Value.string ByteArray.empty ∧
 (0 : Int) = (0 : Int) ∧
 (0 : Int) = (0 : Int) ∧
 (0 : Int) = (0 : Int) ∧
 Value.string ByteArray.empty = Value.string ByteArray.empty ∧
 (0 : Int) = (0 : Int) ∧
 (0 : Int) = (0 : Int) ∧
 Value.string ByteArray.empty = Value.string ByteArray.empty ∧
 (4 : Int) = (4 : Int) ∧
 Value.string (ByteArray.mk #[(99 : UInt8)]) =
 Value.string (ByteArray.mk #[(99 : UInt8)]) ∧
 Value.string (ByteArray.mk #[(97 : UInt8)]) =
 Value.string (ByteArray.mk #[(97 : UInt8)]) ∧
 (2 : Int) = (2 : Int) ∧
 (0 : Int) = (0 : Int) ∧
 Value.string (ByteArray.mk #[(120 : UInt8)]) =
 Value.string
 (pk i (9 : Nat)
 (nm.extract (0 : Nat)
 (if (20 : Int) < (↑nm.size : Int) then
 (20 : Int)
 else (↑nm.size : Int)).toNat)
 (ByteArray.mk #[(120 : UInt8)])) ∧
 (0 : Int) = (0 : Int) ∧
 (0 : Int) = (0 : Int) ∧
 (0 : Int) = (0 : Int) ∧
 Value.string ByteArray.empty =
 Value.string ByteArray.empty ∧
 (0 : Int) = (0 : Int) ∧
 (0 : Int) = (0 : Int) ∧
 Value.string ByteArray.empty =
 Value.string ByteArray.empty ∧
 (5 : Int) = (5 : Int) ∧
 Value.string
 (ByteArray.mk #[(99 : UInt8)]) =
 Value.string
 (ByteArray.mk #[(99 : UInt8)]) ∧
 Value.string ByteArray.empty =
 Value.string ByteArray.empty ∧
 (0 : Int) = (0 : Int) ∧
 (0 : Int) = (0 : Int) ∧
 Value.string ByteArray.empty =
 Value.string
 ByteArray.empty ∧
 (0 : Int) = (0 : Int) ∧
 (0 : Int) = (0 : Int) ∧
 (0 : Int) = (0 : Int) ∧
 Value.string
 ByteArray.empty =
 Value.string
 ByteArray.empty ∧
 (0 : Int) =
 (0 : Int) ∧
 (0 : Int) =
 (0 : Int) ∧
 Value.string
 ByteArray.empty =
 Value.string
 ByteArray.empty ∧
 (1 : Nat) =
 (1 : Nat) ∧
 Value.string
 (ByteArray.mk #[(97 : UInt8)]) =
 Value.string
 (pk i
 (10 :
 Nat)
 (nm.extract
 (0 :
 Nat)
 (if
 (20 :
 Int) <
 (↑nm.size :
 Int) then
 (20 :
 Int)
 else
 (↑nm.size :
 Int)).toNat)
 (ByteArray.mk #[(97 : UInt8)])) ∧
 Value.string
 (ByteArray.mk #[(120 : UInt8)]) =
 Value.string
 (pk i
 (11 :
 Nat)
 (nm.extract
 (0 :
 Nat)
 (if
 (20 :
 Int) <
 (↑nm.size :
 Int) then
 (20 :
 Int)
 else
 (↑nm.size :
 Int)).toNat)
 (ByteArray.mk #[(120 : UInt8)])) ∧
 [[D.s
 (ByteArray.mk #[(97 : UInt8)])]] =
 [[D.s
 (pk
 i
 (3 :
 Nat)
 (nm.extract
 (0 :
 Nat)
 (if
 (20 :
 Int) <
 (↑nm.size :
 Int) then
 (20 :
 Int)
 else
 (↑nm.size :
 Int)).toNat)
 (ByteArray.mk #[(97 : UInt8)]))]] ∧
 [[D.i
 (0 :
 Int),
 D.s
 (ByteArray.mk #[(97 : UInt8)]),
 D.i
 (0 :
 Int)]].set
 (nat_lit
 0)
 (List.map
 (fun
 (q :
 Nat) =>
 if
 (((0 :
 Nat) +
 (1 :
 Nat)).ble
 q &&
 q.blt
 ((0 :
 Nat) +
 (1 :
 Nat) +
 [D.s
 (nm.extract
 (0 :
 Nat)
 (if
 (20 :
 Int) <
 (↑nm.size :
 Int) then
 (20 :
 Int)
 else
 (↑nm.size :
 Int)).toNat)].length)) =
 true then
 [D.s
 (nm.extract
 (0 :
 Nat)
 (if
 (20 :
 Int) <
 (↑nm.size :
 Int) then
 (20 :
 Int)
 else
 (↑nm.size :
 Int)).toNat)].getD
 (q -
 ((0 :
 Nat) +
 (1 :
 Nat)))
 (D.i
 (0 :
 Int))
 else
 (D.l
 [[D.i
 (0 :
 Int),
 D.s
 (ByteArray.mk #[(97 : UInt8)]),
 D.i
 (0 :
 Int)]]).el
 (nat_lit
 0)
 q)
 (List.range
 [K.int
 IntKind.i64,
 K.str,
 K.int
 IntKind.i64].length)) =
 [[D.i
 (0 :
 Int),
 D.s
 (pk
 i
 (5 :
 Nat)
 (nm.extract
 (0 :
 Nat)
 (if
 (20 :
 Int) <
 (↑nm.size :
 Int) then
 (20 :
 Int)
 else
 (↑nm.size :
 Int)).toNat)
 (ByteArray.mk #[(97 : UInt8)])),
 D.i
 (0 :
 Int)]] ∧
 [[D.s
 (ByteArray.mk #[(120 : UInt8)])]] =
 [[D.s
 (pk
 i
 (7 :
 Nat)
 (nm.extract
 (0 :
 Nat)
 (if
 (20 :
 Int) <
 (↑nm.size :
 Int) then
 (20 :
 Int)
 else
 (↑nm.size :
 Int)).toNat)
 (ByteArray.mk #[(120 : UInt8)]))]]) ∧
 ((IntKind.i64.wrap ((IntKind.u64.wrap a).tmod (12 : Int)) == (5 : Int)) = false →
 ((IntKind.i64.wrap ((IntKind.u64.wrap a).tmod (12 : Int)) == (6 : Int)) = true →
 ∃ (i : Nat),
 (i = m12 a ∧ True) ∧
 Value.string (nm.extract (0 : Nat) (if (20 : Int) < (↑nm.size : Int) then (20 : Int) else (↑nm.size : Int)).toNat) =
 Value.string (nm.extract (0 : Nat) (if (20 : Int) < (↑nm.size : Int) then (20 : Int) else (↑nm.size : Int)).toNat) ∧
 false = false ∧
 (1 : Nat) = (1 : Nat) ∧
 (1 : Nat) = (1 : Nat) ∧
 (1 : Nat) = (1 : Nat) ∧
 Value.string (ByteArray.mk #[(99 : UInt8)]) =
 Value.string
 (pk i (0 : Nat)
 (nm.extract (0 : Nat) (if (20 : Int) < (↑nm.size : Int) then (20 : Int) else (↑nm.size : Int)).toNat)
 (ByteArray.mk #[(99 : UInt8)])) ∧
 (0 : Int) = (0 : Int) ∧
 (1 : Int) = (1 : Int) ∧
 Value.string (ByteArray.mk #[(112 : UInt8)]) =
 Value.string
 (pk i (1 : Nat)
 (nm.extract (0 : Nat)
 (if (20 : Int) < (↑nm.size : Int) then (20 : Int) else (↑nm.size : Int)).toNat)
 (ByteArray.mk #[(112 : UInt8)])) ∧
 Value.string (ByteArray.mk #[(113 : UInt8)]) =
 Value.string
 (pk i (2 : Nat)
 (nm.extract (0 : Nat)
 (if (20 : Int) < (↑nm.size : Int) then (20 : Int) else (↑nm.size : Int)).toNat)
 (ByteArray.mk #[(113 : UInt8)])) ∧
 (1 : Nat) = (1 : Nat) ∧
 Value.string (ByteArray.mk #[(99 : UInt8)]) =
 Value.string
 (pk i (4 : Nat)
 (nm.extract (0 : Nat)
 (if (20 : Int) < (↑nm.size : Int) then (20 : Int) else (↑nm.size : Int)).toNat)
 (ByteArray.mk #[(99 : UInt8)])) ∧
 (1 : Nat) = (1 : Nat) ∧
 Value.string
 (nm.extract (0 : Nat)
 (if (20 : Int) < (↑nm.size : Int) then (20 : Int) else (↑nm.size : Int)).toNat) =
 Value.string
 (pk i (6 : Nat)
 (nm.extract (0 : Nat)
 (if (20 : Int) < (↑nm.size : Int) then (20 : Int) else (↑nm.size : Int)).toNat)
 (ByteArray.mk #[(112 : UInt8)])) ∧
 (1 : Nat) = (1 : Nat) ∧
 (3 : Nat) = (3 : Nat) ∧
 (7 : Int) = (7 : Int) ∧
 Value.string (ByteArray.mk #[(120 : UInt8)]) =
 Value.string
 (pk i (8 : Nat)
 (nm.extract (0 : Nat)
 (if (20 : Int) < (↑nm.size : Int) then (20 : Int) else (↑nm.size : Int)).toNat)
 (ByteArray.mk #[(120 : UInt8)])) ∧
 Value.string ByteArray.empty = Value.string ByteArray.empty ∧
 (0 : Int) = (0 : Int) ∧
 (0 : Int) = (0 : Int) ∧
 Value.string ByteArray.empty = Value.string ByteArray.empty ∧
 (0 : Int) = (0 : Int) ∧
 (0 : Int) = (0 : Int) ∧
 (0 : Int) = (0 : Int) ∧
 Value.string ByteArray.empty = Value.string ByteArray.empty ∧
 (0 : Int) = (0 : Int) ∧
 (0 : Int) = (0 : Int) ∧
 Value.string ByteArray.empty = Value.string ByteArray.empty ∧
 (4 : Int) = (4 : Int) ∧
 Value.string (ByteArray.mk #[(99 : UInt8)]) =
 Value.string (ByteArray.mk #[(99 : UInt8)]) ∧
 Value.string (ByteArray.mk #[(97 : UInt8)]) =
 Value.string (ByteArray.mk #[(97 : UInt8)]) ∧
 (2 : Int) = (2 : Int) ∧
 (0 : Int) = (0 : Int) ∧
 Value.string (ByteArray.mk #[(120 : UInt8)]) =
 Value.string
 (pk i (9 : Nat)
 (nm.extract (0 : Nat)
 (if (20 : Int) < (↑nm.size : Int) then
 (20 : Int)
 else (↑nm.size : Int)).toNat)
 (ByteArray.mk #[(120 : UInt8)])) ∧
 (0 : Int) = (0 : Int) ∧
 (0 : Int) = (0 : Int) ∧
 (0 : Int) = (0 : Int) ∧
 Value.string ByteArray.empty =
 Value.string ByteArray.empty ∧
 (0 : Int) = (0 : Int) ∧
 (0 : Int) = (0 : Int) ∧
 Value.string ByteArray.empty =
 Value.string ByteArray.empty ∧
 (5 : Int) = (5 : Int) ∧
 Value.string
 (ByteArray.mk #[(99 : UInt8)]) =
 Value.string
 (ByteArray.mk #[(99 : UInt8)]) ∧
 Value.string ByteArray.empty =
 Value.string ByteArray.empty ∧
 (0 : Int) = (0 : Int) ∧
 (0 : Int) = (0 : Int) ∧
 Value.string ByteArray.empty =
 Value.string
 ByteArray.empty ∧
 (0 : Int) = (0 : Int) ∧
 (0 : Int) = (0 : Int) ∧
 (0 : Int) = (0 : Int) ∧
 Value.string
 ByteArray.empty =
 Value.string
 ByteArray.empty ∧
 (0 : Int) =
 (0 : Int) ∧
 (0 : Int) =
 (0 : Int) ∧
 Value.string
 ByteArray.empty =
 Value.string
 ByteArray.empty ∧
 (1 : Nat) =
 nat_lit
 1 ∧
 Value.string
 (ByteArray.mk #[(97 : UInt8)]) =
 Value.string
 (pk i
 (10 :
 Nat)
 (nm.extract
 (0 :
 Nat)
 (if
 (20 :
 Int) <
 (↑nm.size :
 Int) then
 (20 :
 Int)
 else
 (↑nm.size :
 Int)).toNat)
 (ByteArray.mk #[(97 : UInt8)])) ∧
 Value.string
 (ByteArray.mk #[(120 : UInt8)]) =
 Value.string
 (pk
 i
 (11 :
 Nat)
 (nm.extract
 (0 :
 Nat)
 (if
 (20 :
 Int) <
 (↑nm.size :
 Int) then
 (20 :
 Int)
 else
 (↑nm.size :
 Int)).toNat)
 (ByteArray.mk #[(120 : UInt8)])) ∧
 [[D.s
 (ByteArray.mk #[(97 : UInt8)])]] =
 [[D.s
 (pk
 i
 (3 :
 Nat)
 (nm.extract
 (0 :
 Nat)
 (if
 (20 :
 Int) <
 (↑nm.size :
 Int) then
 (20 :
 Int)
 else
 (↑nm.size :
 Int)).toNat)
 (ByteArray.mk #[(97 : UInt8)]))]] ∧
 [[D.i
 (0 :
 Int),
 D.s
 (ByteArray.mk #[(97 : UInt8)]),
 D.i
 (0 :
 Int)]] =
 [[D.i
 (0 :
 Int),
 D.s
 (pk
 i
 (5 :
 Nat)
 (nm.extract
 (0 :
 Nat)
 (if
 (20 :
 Int) <
 (↑nm.size :
 Int) then
 (20 :
 Int)
 else
 (↑nm.size :
 Int)).toNat)
 (ByteArray.mk #[(97 : UInt8)])),
 D.i
 (0 :
 Int)]] ∧
 [[D.s
 (ByteArray.mk #[(120 : UInt8)])]] =
 [[D.s
 (pk
 i
 (7 :
 Nat)
 (nm.extract
 (0 :
 Nat)
 (if
 (20 :
 Int) <
 (↑nm.size :
 Int) then
 (20 :
 Int)
 else
 (↑nm.size :
 Int)).toNat)
 (ByteArray.mk #[(120 : UInt8)]))]]) ∧
 ((IntKind.i64.wrap ((IntKind.u64.wrap a).tmod (12 : Int)) == (6 : Int)) = false →
 ((IntKind.i64.wrap ((IntKind.u64.wrap a).tmod (12 : Int)) == (7 : Int)) = true →
 (0 : Nat) < (D.l [[D.s (ByteArray.mk #[(120 : UInt8)])]]).len ∧
 ∃ (i : Nat),
 (i = m12 a ∧ True) ∧
 Value.string (nm.extract (0 : Nat) (if (20 : Int) < (↑nm.size : Int) then (20 : Int) else (↑nm.size : Int)).toNat) =
 Value.string
 (nm.extract (0 : Nat) (if (20 : Int) < (↑nm.size : Int) then (20 : Int) else (↑nm.size : Int)).toNat) ∧
 false = false ∧
 (1 : Nat) = (1 : Nat) ∧
 (1 : Nat) = (1 : Nat) ∧
 (1 : Nat) = (1 : Nat) ∧
 Value.string (ByteArray.mk #[(99 : UInt8)]) =
 Value.string
 (pk i (0 : Nat)
 (nm.extract (0 : Nat)
 (if (20 : Int) < (↑nm.size : Int) then (20 : Int) else (↑nm.size : Int)).toNat)
 (ByteArray.mk #[(99 : UInt8)])) ∧
 (0 : Int) = (0 : Int) ∧
 (1 : Int) = (1 : Int) ∧
 Value.string (ByteArray.mk #[(112 : UInt8)]) =
 Value.string
 (pk i (1 : Nat)
 (nm.extract (0 : Nat)
 (if (20 : Int) < (↑nm.size : Int) then (20 : Int) else (↑nm.size : Int)).toNat)
 (ByteArray.mk #[(112 : UInt8)])) ∧
 Value.string (ByteArray.mk #[(113 : UInt8)]) =
 Value.string
 (pk i (2 : Nat)
 (nm.extract (0 : Nat)
 (if (20 : Int) < (↑nm.size : Int) then (20 : Int) else (↑nm.size : Int)).toNat)
 (ByteArray.mk #[(113 : UInt8)])) ∧
 (1 : Nat) = (1 : Nat) ∧
 Value.string (ByteArray.mk #[(99 : UInt8)]) =
 Value.string
 (pk i (4 : Nat)
 (nm.extract (0 : Nat)
 (if (20 : Int) < (↑nm.size : Int) then (20 : Int) else (↑nm.size : Int)).toNat)
 (ByteArray.mk #[(99 : UInt8)])) ∧
 (1 : Nat) = (1 : Nat) ∧
 Value.string (ByteArray.mk #[(112 : UInt8)]) =
 Value.string
 (pk i (6 : Nat)
 (nm.extract (0 : Nat)
 (if (20 : Int) < (↑nm.size : Int) then (20 : Int) else (↑nm.size : Int)).toNat)
 (ByteArray.mk #[(112 : UInt8)])) ∧
 (1 : Nat) = (1 : Nat) ∧
 (3 : Nat) = (3 : Nat) ∧
 (7 : Int) = (7 : Int) ∧
 Value.string (ByteArray.mk #[(120 : UInt8)]) =
 Value.string
 (pk i (8 : Nat)
 (nm.extract (0 : Nat)
 (if (20 : Int) < (↑nm.size : Int) then (20 : Int)
 else (↑nm.size : Int)).toNat)
 (ByteArray.mk #[(120 : UInt8)])) ∧
 Value.string ByteArray.empty = Value.string ByteArray.empty ∧
 (0 : Int) = (0 : Int) ∧
 (0 : Int) = (0 : Int) ∧
 Value.string ByteArray.empty = Value.string ByteArray.empty ∧
 (0 : Int) = (0 : Int) ∧
 (0 : Int) = (0 : Int) ∧
 (0 : Int) = (0 : Int) ∧
 Value.string ByteArray.empty = Value.string ByteArray.empty ∧
 (0 : Int) = (0 : Int) ∧
 (0 : Int) = (0 : Int) ∧
 Value.string ByteArray.empty = Value.string ByteArray.empty ∧
 (4 : Int) = (4 : Int) ∧
 Value.string (ByteArray.mk #[(99 : UInt8)]) =
 Value.string (ByteArray.mk #[(99 : UInt8)]) ∧
 Value.string (ByteArray.mk #[(97 : UInt8)]) =
 Value.string (ByteArray.mk #[(97 : UInt8)]) ∧
 (2 : Int) = (2 : Int) ∧
 (0 : Int) = (0 : Int) ∧
 Value.string (ByteArray.mk #[(120 : UInt8)]) =
 Value.string
 (pk i (9 : Nat)
 (nm.extract (0 : Nat)
 (if (20 : Int) < (↑nm.size : Int) then
 (20 : Int)
 else (↑nm.size : Int)).toNat)
 (ByteArray.mk #[(120 : UInt8)])) ∧
 (0 : Int) = (0 : Int) ∧
 (0 : Int) = (0 : Int) ∧
 (0 : Int) = (0 : Int) ∧
 Value.string ByteArray.empty =
 Value.string ByteArray.empty ∧
 (0 : Int) = (0 : Int) ∧
 (0 : Int) = (0 : Int) ∧
 Value.string ByteArray.empty =
 Value.string ByteArray.empty ∧
 (5 : Int) = (5 : Int) ∧
 Value.string
 (ByteArray.mk #[(99 : UInt8)]) =
 Value.string
 (ByteArray.mk #[(99 : UInt8)]) ∧
 Value.string ByteArray.empty =
 Value.string
 ByteArray.empty ∧
 (0 : Int) = (0 : Int) ∧
 (0 : Int) = (0 : Int) ∧
 Value.string
 ByteArray.empty =
 Value.string
 ByteArray.empty ∧
 (0 : Int) =
 (0 : Int) ∧
 (0 : Int) =
 (0 : Int) ∧
 (0 : Int) =
 (0 : Int) ∧
 Value.string
 ByteArray.empty =
 Value.string
 ByteArray.empty ∧
 (0 : Int) =
 (0 :
 Int) ∧
 (0 : Int) =
 (0 :
 Int) ∧
 Value.string
 ByteArray.empty =
 Value.string
 ByteArray.empty ∧
 nat_lit
 1 =
 nat_lit
 1 ∧
 Value.string
 (ByteArray.mk #[(97 : UInt8)]) =
 Value.string
 (pk
 i
 (10 :
 Nat)
 (nm.extract
 (0 :
 Nat)
 (if
 (20 :
 Int) <
 (↑nm.size :
 Int) then
 (20 :
 Int)
 else
 (↑nm.size :
 Int)).toNat)
 (ByteArray.mk #[(97 : UInt8)])) ∧
 Value.string
 (ByteArray.mk #[(120 : UInt8)]) =
 Value.string
 (pk
 i
 (11 :
 Nat)
 (nm.extract
 (0 :
 Nat)
 (if
 (20 :
 Int) <
 (↑nm.size :
 Int) then
 (20 :
 Int)
 else
 (↑nm.size :
 Int)).toNat)
 (ByteArray.mk #[(120 : UInt8)])) ∧
 [[D.s
 (ByteArray.mk #[(97 : UInt8)])]] =
 [[D.s
 (pk
 i
 (3 :
 Nat)
 (nm.extract
 (0 :
 Nat)
 (if
 (20 :
 Int) <
 (↑nm.size :
 Int) then
 (20 :
 Int)
 else
 (↑nm.size :
 Int)).toNat)
 (ByteArray.mk #[(97 : UInt8)]))]] ∧
 [[D.i
 (0 :
 Int),
 D.s
 (ByteArray.mk #[(97 : UInt8)]),
 D.i
 (0 :
 Int)]] =
 [[D.i
 (0 :
 Int),
 D.s
 (pk
 i
 (5 :
 Nat)
 (nm.extract
 (0 :
 Nat)
 (if
 (20 :
 Int) <
 (↑nm.size :
 Int) then
 (20 :
 Int)
 else
 (↑nm.size :
 Int)).toNat)
 (ByteArray.mk #[(97 : UInt8)])),
 D.i
 (0 :
 Int)]] ∧
 [[D.s
 (ByteArray.mk #[(120 : UInt8)])]].set
 (nat_lit
 0)
 [D.s
 (nm.extract
 (0 :
 Nat)
 (if
 (20 :
 Int) <
 (↑nm.size :
 Int) then
 (20 :
 Int)
 else
 (↑nm.size :
 Int)).toNat)] =
 [[D.s
 (pk
 i
 (7 :
 Nat)
 (nm.extract
 (0 :
 Nat)
 (if
 (20 :
 Int) <
 (↑nm.size :
 Int) then
 (20 :
 Int)
 else
 (↑nm.size :
 Int)).toNat)
 (ByteArray.mk #[(120 : UInt8)]))]]) ∧
 ((IntKind.i64.wrap ((IntKind.u64.wrap a).tmod (12 : Int)) == (7 : Int)) = false →
 ((IntKind.i64.wrap ((IntKind.u64.wrap a).tmod (12 : Int)) == (8 : Int)) = true →
 ∃ (i : Nat),
 (i = m12 a ∧ True) ∧
 Value.string (nm.extract (0 : Nat) (if (20 : Int) < (↑nm.size : Int) then (20 : Int) else (↑nm.size : Int)).toNat) =
 Value.string
 (nm.extract (0 : Nat) (if (20 : Int) < (↑nm.size : Int) then (20 : Int) else (↑nm.size : Int)).toNat) ∧
 false = false ∧
 (1 : Nat) = (1 : Nat) ∧
 (1 : Nat) = (1 : Nat) ∧
 (1 : Nat) = (1 : Nat) ∧
 Value.string (ByteArray.mk #[(99 : UInt8)]) =
 Value.string
 (pk i (0 : Nat)
 (nm.extract (0 : Nat)
 (if (20 : Int) < (↑nm.size : Int) then (20 : Int) else (↑nm.size : Int)).toNat)
 (ByteArray.mk #[(99 : UInt8)])) ∧
 (0 : Int) = (0 : Int) ∧
 (1 : Int) = (1 : Int) ∧
 Value.string (ByteArray.mk #[(112 : UInt8)]) =
 Value.string
 (pk i (1 : Nat)
 (nm.extract (0 : Nat)
 (if (20 : Int) < (↑nm.size : Int) then (20 : Int) else (↑nm.size : Int)).toNat)
 (ByteArray.mk #[(112 : UInt8)])) ∧
 Value.string (ByteArray.mk #[(113 : UInt8)]) =
 Value.string
 (pk i (2 : Nat)
 (nm.extract (0 : Nat)
 (if (20 : Int) < (↑nm.size : Int) then (20 : Int) else (↑nm.size : Int)).toNat)
 (ByteArray.mk #[(113 : UInt8)])) ∧
 (1 : Nat) = (1 : Nat) ∧
 Value.string (ByteArray.mk #[(99 : UInt8)]) =
 Value.string
 (pk i (4 : Nat)
 (nm.extract (0 : Nat)
 (if (20 : Int) < (↑nm.size : Int) then (20 : Int) else (↑nm.size : Int)).toNat)
 (ByteArray.mk #[(99 : UInt8)])) ∧
 (1 : Nat) = (1 : Nat) ∧
 Value.string (ByteArray.mk #[(112 : UInt8)]) =
 Value.string
 (pk i (6 : Nat)
 (nm.extract (0 : Nat)
 (if (20 : Int) < (↑nm.size : Int) then (20 : Int) else (↑nm.size : Int)).toNat)
 (ByteArray.mk #[(112 : UInt8)])) ∧
 (1 : Nat) = (1 : Nat) ∧
 (3 : Nat) = (3 : Nat) ∧
 (7 : Int) = (7 : Int) ∧
 Value.string
 (nm.extract (0 : Nat)
 (if (20 : Int) < (↑nm.size : Int) then (20 : Int)
 else (↑nm.size : Int)).toNat) =
 Value.string
 (pk i (8 : Nat)
 (nm.extract (0 : Nat)
 (if (20 : Int) < (↑nm.size : Int) then (20 : Int)
 else (↑nm.size : Int)).toNat)
 (ByteArray.mk #[(120 : UInt8)])) ∧
 Value.string ByteArray.empty = Value.string ByteArray.empty ∧
 (0 : Int) = (0 : Int) ∧
 (0 : Int) = (0 : Int) ∧
 Value.string ByteArray.empty = Value.string ByteArray.empty ∧
 (0 : Int) = (0 : Int) ∧
 (0 : Int) = (0 : Int) ∧
 (0 : Int) = (0 : Int) ∧
 Value.string ByteArray.empty = Value.string ByteArray.empty ∧
 (0 : Int) = (0 : Int) ∧
 (0 : Int) = (0 : Int) ∧
 Value.string ByteArray.empty =
 Value.string ByteArray.empty ∧
 (4 : Int) = (4 : Int) ∧
 Value.string (ByteArray.mk #[(99 : UInt8)]) =
 Value.string (ByteArray.mk #[(99 : UInt8)]) ∧
 Value.string (ByteArray.mk #[(97 : UInt8)]) =
 Value.string (ByteArray.mk #[(97 : UInt8)]) ∧
 (2 : Int) = (2 : Int) ∧
 (0 : Int) = (0 : Int) ∧
 Value.string (ByteArray.mk #[(120 : UInt8)]) =
 Value.string
 (pk i (9 : Nat)
 (nm.extract (0 : Nat)
 (if (20 : Int) < (↑nm.size : Int) then
 (20 : Int)
 else (↑nm.size : Int)).toNat)
 (ByteArray.mk #[(120 : UInt8)])) ∧
 (0 : Int) = (0 : Int) ∧
 (0 : Int) = (0 : Int) ∧
 (0 : Int) = (0 : Int) ∧
 Value.string ByteArray.empty =
 Value.string ByteArray.empty ∧
 (0 : Int) = (0 : Int) ∧
 (0 : Int) = (0 : Int) ∧
 Value.string ByteArray.empty =
 Value.string ByteArray.empty ∧
 (5 : Int) = (5 : Int) ∧
 Value.string
 (ByteArray.mk #[(99 : UInt8)]) =
 Value.string
 (ByteArray.mk #[(99 : UInt8)]) ∧
 Value.string
 ByteArray.empty =
 Value.string
 ByteArray.empty ∧
 (0 : Int) = (0 : Int) ∧
 (0 : Int) = (0 : Int) ∧
 Value.string
 ByteArray.empty =
 Value.string
 ByteArray.empty ∧
 (0 : Int) =
 (0 : Int) ∧
 (0 : Int) =
 (0 : Int) ∧
 (0 : Int) =
 (0 : Int) ∧
 Value.string
 ByteArray.empty =
 Value.string
 ByteArray.empty ∧
 (0 : Int) =
 (0 :
 Int) ∧
 (0 :
 Int) =
 (0 :
 Int) ∧
 Value.string
 ByteArray.empty =
 Value.string
 ByteArray.empty ∧
 nat_lit
 1 =
 nat_lit
 1 ∧
 Value.string
 (ByteArray.mk #[(97 : UInt8)]) =
 Value.string
 (pk
 i
 (10 :
 Nat)
 (nm.extract
 (0 :
 Nat)
 (if
 (20 :
 Int) <
 (↑nm.size :
 Int) then
 (20 :
 Int)
 else
 (↑nm.size :
 Int)).toNat)
 (ByteArray.mk #[(97 : UInt8)])) ∧
 Value.string
 (ByteArray.mk #[(120 : UInt8)]) =
 Value.string
 (pk
 i
 (11 :
 Nat)
 (nm.extract
 (0 :
 Nat)
 (if
 (20 :
 Int) <
 (↑nm.size :
 Int) then
 (20 :
 Int)
 else
 (↑nm.size :
 Int)).toNat)
 (ByteArray.mk #[(120 : UInt8)])) ∧
 [[D.s
 (ByteArray.mk #[(97 : UInt8)])]] =
 [[D.s
 (pk
 i
 (3 :
 Nat)
 (nm.extract
 (0 :
 Nat)
 (if
 (20 :
 Int) <
 (↑nm.size :
 Int) then
 (20 :
 Int)
 else
 (↑nm.size :
 Int)).toNat)
 (ByteArray.mk #[(97 : UInt8)]))]] ∧
 [[D.i
 (0 :
 Int),
 D.s
 (ByteArray.mk #[(97 : UInt8)]),
 D.i
 (0 :
 Int)]] =
 [[D.i
 (0 :
 Int),
 D.s
 (pk
 i
 (5 :
 Nat)
 (nm.extract
 (0 :
 Nat)
 (if
 (20 :
 Int) <
 (↑nm.size :
 Int) then
 (20 :
 Int)
 else
 (↑nm.size :
 Int)).toNat)
 (ByteArray.mk #[(97 : UInt8)])),
 D.i
 (0 :
 Int)]] ∧
 [[D.s
 (ByteArray.mk #[(120 : UInt8)])]] =
 [[D.s
 (pk
 i
 (7 :
 Nat)
 (nm.extract
 (0 :
 Nat)
 (if
 (20 :
 Int) <
 (↑nm.size :
 Int) then
 (20 :
 Int)
 else
 (↑nm.size :
 Int)).toNat)
 (ByteArray.mk #[(120 : UInt8)]))]]) ∧
 ((IntKind.i64.wrap ((IntKind.u64.wrap a).tmod (12 : Int)) == (8 : Int)) = false →
 ((IntKind.i64.wrap ((IntKind.u64.wrap a).tmod (12 : Int)) == (9 : Int)) = true →
 ∃ (i : Nat),
 (i = m12 a ∧ True) ∧
 Value.string
 (nm.extract (0 : Nat) (if (20 : Int) < (↑nm.size : Int) then (20 : Int) else (↑nm.size : Int)).toNat) =
 Value.string
 (nm.extract (0 : Nat) (if (20 : Int) < (↑nm.size : Int) then (20 : Int) else (↑nm.size : Int)).toNat) ∧
 false = false ∧
 (1 : Nat) = (1 : Nat) ∧
 (1 : Nat) = (1 : Nat) ∧
 (1 : Nat) = (1 : Nat) ∧
 Value.string (ByteArray.mk #[(99 : UInt8)]) =
 Value.string
 (pk i (0 : Nat)
 (nm.extract (0 : Nat)
 (if (20 : Int) < (↑nm.size : Int) then (20 : Int) else (↑nm.size : Int)).toNat)
 (ByteArray.mk #[(99 : UInt8)])) ∧
 (0 : Int) = (0 : Int) ∧
 (1 : Int) = (1 : Int) ∧
 Value.string (ByteArray.mk #[(112 : UInt8)]) =
 Value.string
 (pk i (1 : Nat)
 (nm.extract (0 : Nat)
 (if (20 : Int) < (↑nm.size : Int) then (20 : Int) else (↑nm.size : Int)).toNat)
 (ByteArray.mk #[(112 : UInt8)])) ∧
 Value.string (ByteArray.mk #[(113 : UInt8)]) =
 Value.string
 (pk i (2 : Nat)
 (nm.extract (0 : Nat)
 (if (20 : Int) < (↑nm.size : Int) then (20 : Int) else (↑nm.size : Int)).toNat)
 (ByteArray.mk #[(113 : UInt8)])) ∧
 (1 : Nat) = (1 : Nat) ∧
 Value.string (ByteArray.mk #[(99 : UInt8)]) =
 Value.string
 (pk i (4 : Nat)
 (nm.extract (0 : Nat)
 (if (20 : Int) < (↑nm.size : Int) then (20 : Int) else (↑nm.size : Int)).toNat)
 (ByteArray.mk #[(99 : UInt8)])) ∧
 (1 : Nat) = (1 : Nat) ∧
 Value.string (ByteArray.mk #[(112 : UInt8)]) =
 Value.string
 (pk i (6 : Nat)
 (nm.extract (0 : Nat)
 (if (20 : Int) < (↑nm.size : Int) then (20 : Int)
 else (↑nm.size : Int)).toNat)
 (ByteArray.mk #[(112 : UInt8)])) ∧
 (1 : Nat) = (1 : Nat) ∧
 (3 : Nat) = (3 : Nat) ∧
 (7 : Int) = (7 : Int) ∧
 Value.string (ByteArray.mk #[(120 : UInt8)]) =
 Value.string
 (pk i (8 : Nat)
 (nm.extract (0 : Nat)
 (if (20 : Int) < (↑nm.size : Int) then (20 : Int)
 else (↑nm.size : Int)).toNat)
 (ByteArray.mk #[(120 : UInt8)])) ∧
 Value.string ByteArray.empty = Value.string ByteArray.empty ∧
 (0 : Int) = (0 : Int) ∧
 (0 : Int) = (0 : Int) ∧
 Value.string ByteArray.empty = Value.string ByteArray.empty ∧
 (0 : Int) = (0 : Int) ∧
 (0 : Int) = (0 : Int) ∧
 (0 : Int) = (0 : Int) ∧
 Value.string ByteArray.empty = Value.string ByteArray.empty ∧
 (0 : Int) = (0 : Int) ∧
 (0 : Int) = (0 : Int) ∧
 Value.string ByteArray.empty =
 Value.string ByteArray.empty ∧
 (4 : Int) = (4 : Int) ∧
 Value.string (ByteArray.mk #[(99 : UInt8)]) =
 Value.string (ByteArray.mk #[(99 : UInt8)]) ∧
 Value.string (ByteArray.mk #[(97 : UInt8)]) =
 Value.string (ByteArray.mk #[(97 : UInt8)]) ∧
 (2 : Int) = (2 : Int) ∧
 (0 : Int) = (0 : Int) ∧
 Value.string
 (nm.extract (0 : Nat)
 (if
 (20 : Int) <
 (↑nm.size : Int) then
 (20 : Int)
 else (↑nm.size : Int)).toNat) =
 Value.string
 (pk i (9 : Nat)
 (nm.extract (0 : Nat)
 (if
 (20 : Int) <
 (↑nm.size : Int) then
 (20 : Int)
 else (↑nm.size : Int)).toNat)
 (ByteArray.mk #[(120 : UInt8)])) ∧
 (0 : Int) = (0 : Int) ∧
 (0 : Int) = (0 : Int) ∧
 (0 : Int) = (0 : Int) ∧
 Value.string ByteArray.empty =
 Value.string ByteArray.empty ∧
 (0 : Int) = (0 : Int) ∧
 (0 : Int) = (0 : Int) ∧
 Value.string ByteArray.empty =
 Value.string
 ByteArray.empty ∧
 (5 : Int) = (5 : Int) ∧
 Value.string
 (ByteArray.mk #[(99 : UInt8)]) =
 Value.string
 (ByteArray.mk #[(99 : UInt8)]) ∧
 Value.string
 ByteArray.empty =
 Value.string
 ByteArray.empty ∧
 (0 : Int) =
 (0 : Int) ∧
 (0 : Int) =
 (0 : Int) ∧
 Value.string
 ByteArray.empty =
 Value.string
 ByteArray.empty ∧
 (0 : Int) =
 (0 : Int) ∧
 (0 : Int) =
 (0 :
 Int) ∧
 (0 : Int) =
 (0 :
 Int) ∧
 Value.string
 ByteArray.empty =
 Value.string
 ByteArray.empty ∧
 (0 :
 Int) =
 (0 :
 Int) ∧
 (0 :
 Int) =
 (0 :
 Int) ∧
 Value.string
 ByteArray.empty =
 Value.string
 ByteArray.empty ∧
 nat_lit
 1 =
 nat_lit
 1 ∧
 Value.string
 (ByteArray.mk #[(97 : UInt8)]) =
 Value.string
 (pk
 i
 (10 :
 Nat)
 (nm.extract
 (0 :
 Nat)
 (if
 (20 :
 Int) <
 (↑nm.size :
 Int) then
 (20 :
 Int)
 else
 (↑nm.size :
 Int)).toNat)
 (ByteArray.mk #[(97 : UInt8)])) ∧
 Value.string
 (ByteArray.mk #[(120 : UInt8)]) =
 Value.string
 (pk
 i
 (11 :
 Nat)
 (nm.extract
 (0 :
 Nat)
 (if
 (20 :
 Int) <
 (↑nm.size :
 Int) then
 (20 :
 Int)
 else
 (↑nm.size :
 Int)).toNat)
 (ByteArray.mk #[(120 : UInt8)])) ∧
 [[D.s
 (ByteArray.mk #[(97 : UInt8)])]] =
 [[D.s
 (pk
 i
 (3 :
 Nat)
 (nm.extract
 (0 :
 Nat)
 (if
 (20 :
 Int) <
 (↑nm.size :
 Int) then
 (20 :
 Int)
 else
 (↑nm.size :
 Int)).toNat)
 (ByteArray.mk #[(97 : UInt8)]))]] ∧
 [[D.i
 (0 :
 Int),
 D.s
 (ByteArray.mk #[(97 : UInt8)]),
 D.i
 (0 :
 Int)]] =
 [[D.i
 (0 :
 Int),
 D.s
 (pk
 i
 (5 :
 Nat)
 (nm.extract
 (0 :
 Nat)
 (if
 (20 :
 Int) <
 (↑nm.size :
 Int) then
 (20 :
 Int)
 else
 (↑nm.size :
 Int)).toNat)
 (ByteArray.mk #[(97 : UInt8)])),
 D.i
 (0 :
 Int)]] ∧
 [[D.s
 (ByteArray.mk #[(120 : UInt8)])]] =
 [[D.s
 (pk
 i
 (7 :
 Nat)
 (nm.extract
 (0 :
 Nat)
 (if
 (20 :
 Int) <
 (↑nm.size :
 Int) then
 (20 :
 Int)
 else
 (↑nm.size :
 Int)).toNat)
 (ByteArray.mk #[(120 : UInt8)]))]]) ∧
 ((IntKind.i64.wrap ((IntKind.u64.wrap a).tmod (12 : Int)) == (9 : Int)) = false →
 ((IntKind.i64.wrap ((IntKind.u64.wrap a).tmod (12 : Int)) == (10 : Int)) = true →
 ∃ (i : Nat),
 (i = m12 a ∧ True) ∧
 Value.string
 (nm.extract (0 : Nat)
 (if (20 : Int) < (↑nm.size : Int) then (20 : Int) else (↑nm.size : Int)).toNat) =
 Value.string
 (nm.extract (0 : Nat)
 (if (20 : Int) < (↑nm.size : Int) then (20 : Int) else (↑nm.size : Int)).toNat) ∧
 false = false ∧
 (1 : Nat) = (1 : Nat) ∧
 (1 : Nat) = (1 : Nat) ∧
 (1 : Nat) = (1 : Nat) ∧
 Value.string (ByteArray.mk #[(99 : UInt8)]) =
 Value.string
 (pk i (0 : Nat)
 (nm.extract (0 : Nat)
 (if (20 : Int) < (↑nm.size : Int) then (20 : Int) else (↑nm.size : Int)).toNat)
 (ByteArray.mk #[(99 : UInt8)])) ∧
 (0 : Int) = (0 : Int) ∧
 (1 : Int) = (1 : Int) ∧
 Value.string (ByteArray.mk #[(112 : UInt8)]) =
 Value.string
 (pk i (1 : Nat)
 (nm.extract (0 : Nat)
 (if (20 : Int) < (↑nm.size : Int) then (20 : Int) else (↑nm.size : Int)).toNat)
 (ByteArray.mk #[(112 : UInt8)])) ∧
 Value.string (ByteArray.mk #[(113 : UInt8)]) =
 Value.string
 (pk i (2 : Nat)
 (nm.extract (0 : Nat)
 (if (20 : Int) < (↑nm.size : Int) then (20 : Int) else (↑nm.size : Int)).toNat)
 (ByteArray.mk #[(113 : UInt8)])) ∧
 (1 : Nat) = (1 : Nat) ∧
 Value.string (ByteArray.mk #[(99 : UInt8)]) =
 Value.string
 (pk i (4 : Nat)
 (nm.extract (0 : Nat)
 (if (20 : Int) < (↑nm.size : Int) then (20 : Int)
 else (↑nm.size : Int)).toNat)
 (ByteArray.mk #[(99 : UInt8)])) ∧
 (1 : Nat) = (1 : Nat) ∧
 Value.string (ByteArray.mk #[(112 : UInt8)]) =
 Value.string
 (pk i (6 : Nat)
 (nm.extract (0 : Nat)
 (if (20 : Int) < (↑nm.size : Int) then (20 : Int)
 else (↑nm.size : Int)).toNat)
 (ByteArray.mk #[(112 : UInt8)])) ∧
 (1 : Nat) = (1 : Nat) ∧
 (3 : Nat) = (3 : Nat) ∧
 (7 : Int) = (7 : Int) ∧
 Value.string (ByteArray.mk #[(120 : UInt8)]) =
 Value.string
 (pk i (8 : Nat)
 (nm.extract (0 : Nat)
 (if (20 : Int) < (↑nm.size : Int) then (20 : Int)
 else (↑nm.size : Int)).toNat)
 (ByteArray.mk #[(120 : UInt8)])) ∧
 Value.string ByteArray.empty = Value.string ByteArray.empty ∧
 (0 : Int) = (0 : Int) ∧
 (0 : Int) = (0 : Int) ∧
 Value.string ByteArray.empty = Value.string ByteArray.empty ∧
 (0 : Int) = (0 : Int) ∧
 (0 : Int) = (0 : Int) ∧
 (0 : Int) = (0 : Int) ∧
 Value.string ByteArray.empty =
 Value.string ByteArray.empty ∧
 (0 : Int) = (0 : Int) ∧
 (0 : Int) = (0 : Int) ∧
 Value.string ByteArray.empty =
 Value.string ByteArray.empty ∧
 (4 : Int) = (4 : Int) ∧
 Value.string (ByteArray.mk #[(99 : UInt8)]) =
 Value.string (ByteArray.mk #[(99 : UInt8)]) ∧
 Value.string (ByteArray.mk #[(97 : UInt8)]) =
 Value.string (ByteArray.mk #[(97 : UInt8)]) ∧
 (2 : Int) = (2 : Int) ∧
 (0 : Int) = (0 : Int) ∧
 Value.string
 (ByteArray.mk #[(120 : UInt8)]) =
 Value.string
 (pk i (9 : Nat)
 (nm.extract (0 : Nat)
 (if
 (20 : Int) <
 (↑nm.size : Int) then
 (20 : Int)
 else
 (↑nm.size : Int)).toNat)
 (ByteArray.mk #[(120 : UInt8)])) ∧
 (0 : Int) = (0 : Int) ∧
 (0 : Int) = (0 : Int) ∧
 (0 : Int) = (0 : Int) ∧
 Value.string ByteArray.empty =
 Value.string
 ByteArray.empty ∧
 (0 : Int) = (0 : Int) ∧
 (0 : Int) = (0 : Int) ∧
 Value.string
 ByteArray.empty =
 Value.string
 ByteArray.empty ∧
 (5 : Int) = (5 : Int) ∧
 Value.string
 (ByteArray.mk #[(99 : UInt8)]) =
 Value.string
 (ByteArray.mk #[(99 : UInt8)]) ∧
 Value.string
 ByteArray.empty =
 Value.string
 ByteArray.empty ∧
 (0 : Int) =
 (0 : Int) ∧
 (0 : Int) =
 (0 : Int) ∧
 Value.string
 ByteArray.empty =
 Value.string
 ByteArray.empty ∧
 (0 : Int) =
 (0 :
 Int) ∧
 (0 :
 Int) =
 (0 :
 Int) ∧
 (0 :
 Int) =
 (0 :
 Int) ∧
 Value.string
 ByteArray.empty =
 Value.string
 ByteArray.empty ∧
 (0 :
 Int) =
 (0 :
 Int) ∧
 (0 :
 Int) =
 (0 :
 Int) ∧
 Value.string
 ByteArray.empty =
 Value.string
 ByteArray.empty ∧
 nat_lit
 1 =
 nat_lit
 1 ∧
 Value.string
 (nm.extract
 (0 :
 Nat)
 (if
 (20 :
 Int) <
 (↑nm.size :
 Int) then
 (20 :
 Int)
 else
 (↑nm.size :
 Int)).toNat) =
 Value.string
 (pk
 i
 (10 :
 Nat)
 (nm.extract
 (0 :
 Nat)
 (if
 (20 :
 Int) <
 (↑nm.size :
 Int) then
 (20 :
 Int)
 else
 (↑nm.size :
 Int)).toNat)
 (ByteArray.mk #[(97 : UInt8)])) ∧
 Value.string
 (ByteArray.mk #[(120 : UInt8)]) =
 Value.string
 (pk
 i
 (11 :
 Nat)
 (nm.extract
 (0 :
 Nat)
 (if
 (20 :
 Int) <
 (↑nm.size :
 Int) then
 (20 :
 Int)
 else
 (↑nm.size :
 Int)).toNat)
 (ByteArray.mk #[(120 : UInt8)])) ∧
 [[D.s
 (ByteArray.mk #[(97 : UInt8)])]] =
 [[D.s
 (pk
 i
 (3 :
 Nat)
 (nm.extract
 (0 :
 Nat)
 (if
 (20 :
 Int) <
 (↑nm.size :
 Int) then
 (20 :
 Int)
 else
 (↑nm.size :
 Int)).toNat)
 (ByteArray.mk #[(97 : UInt8)]))]] ∧
 [[D.i
 (0 :
 Int),
 D.s
 (ByteArray.mk #[(97 : UInt8)]),
 D.i
 (0 :
 Int)]] =
 [[D.i
 (0 :
 Int),
 D.s
 (pk
 i
 (5 :
 Nat)
 (nm.extract
 (0 :
 Nat)
 (if
 (20 :
 Int) <
 (↑nm.size :
 Int) then
 (20 :
 Int)
 else
 (↑nm.size :
 Int)).toNat)
 (ByteArray.mk #[(97 : UInt8)])),
 D.i
 (0 :
 Int)]] ∧
 [[D.s
 (ByteArray.mk #[(120 : UInt8)])]] =
 [[D.s
 (pk
 i
 (7 :
 Nat)
 (nm.extract
 (0 :
 Nat)
 (if
 (20 :
 Int) <
 (↑nm.size :
 Int) then
 (20 :
 Int)
 else
 (↑nm.size :
 Int)).toNat)
 (ByteArray.mk #[(120 : UInt8)]))]]) ∧
 ((IntKind.i64.wrap ((IntKind.u64.wrap a).tmod (12 : Int)) == (10 : Int)) = false →
 ((IntKind.i64.wrap ((IntKind.u64.wrap a).tmod (12 : Int)) == (11 : Int)) = true →
 ∃ (i : Nat),
 (i = m12 a ∧ True) ∧
 Value.string
 (nm.extract (0 : Nat)
 (if (20 : Int) < (↑nm.size : Int) then (20 : Int) else (↑nm.size : Int)).toNat) =
 Value.string
 (nm.extract (0 : Nat)
 (if (20 : Int) < (↑nm.size : Int) then (20 : Int) else (↑nm.size : Int)).toNat) ∧
 false = false ∧
 (1 : Nat) = (1 : Nat) ∧
 (1 : Nat) = (1 : Nat) ∧
 (1 : Nat) = (1 : Nat) ∧
 Value.string (ByteArray.mk #[(99 : UInt8)]) =
 Value.string
 (pk i (0 : Nat)
 (nm.extract (0 : Nat)
 (if (20 : Int) < (↑nm.size : Int) then (20 : Int) else (↑nm.size : Int)).toNat)
 (ByteArray.mk #[(99 : UInt8)])) ∧
 (0 : Int) = (0 : Int) ∧
 (1 : Int) = (1 : Int) ∧
 Value.string (ByteArray.mk #[(112 : UInt8)]) =
 Value.string
 (pk i (1 : Nat)
 (nm.extract (0 : Nat)
 (if (20 : Int) < (↑nm.size : Int) then (20 : Int)
 else (↑nm.size : Int)).toNat)
 (ByteArray.mk #[(112 : UInt8)])) ∧
 Value.string (ByteArray.mk #[(113 : UInt8)]) =
 Value.string
 (pk i (2 : Nat)
 (nm.extract (0 : Nat)
 (if (20 : Int) < (↑nm.size : Int) then (20 : Int)
 else (↑nm.size : Int)).toNat)
 (ByteArray.mk #[(113 : UInt8)])) ∧
 (1 : Nat) = (1 : Nat) ∧
 Value.string (ByteArray.mk #[(99 : UInt8)]) =
 Value.string
 (pk i (4 : Nat)
 (nm.extract (0 : Nat)
 (if (20 : Int) < (↑nm.size : Int) then (20 : Int)
 else (↑nm.size : Int)).toNat)
 (ByteArray.mk #[(99 : UInt8)])) ∧
 (1 : Nat) = (1 : Nat) ∧
 Value.string (ByteArray.mk #[(112 : UInt8)]) =
 Value.string
 (pk i (6 : Nat)
 (nm.extract (0 : Nat)
 (if (20 : Int) < (↑nm.size : Int) then (20 : Int)
 else (↑nm.size : Int)).toNat)
 (ByteArray.mk #[(112 : UInt8)])) ∧
 (1 : Nat) = (1 : Nat) ∧
 (3 : Nat) = (3 : Nat) ∧
 (7 : Int) = (7 : Int) ∧
 Value.string (ByteArray.mk #[(120 : UInt8)]) =
 Value.string
 (pk i (8 : Nat)
 (nm.extract (0 : Nat)
 (if (20 : Int) < (↑nm.size : Int) then (20 : Int)
 else (↑nm.size : Int)).toNat)
 (ByteArray.mk #[(120 : UInt8)])) ∧
 Value.string ByteArray.empty = Value.string ByteArray.empty ∧
 (0 : Int) = (0 : Int) ∧
 (0 : Int) = (0 : Int) ∧
 Value.string ByteArray.empty = Value.string ByteArray.empty ∧
 (0 : Int) = (0 : Int) ∧
 (0 : Int) = (0 : Int) ∧
 (0 : Int) = (0 : Int) ∧
 Value.string ByteArray.empty =
 Value.string ByteArray.empty ∧
 (0 : Int) = (0 : Int) ∧
 (0 : Int) = (0 : Int) ∧
 Value.string ByteArray.empty =
 Value.string ByteArray.empty ∧
 (4 : Int) = (4 : Int) ∧
 Value.string (ByteArray.mk #[(99 : UInt8)]) =
 Value.string
 (ByteArray.mk #[(99 : UInt8)]) ∧
 Value.string (ByteArray.mk #[(97 : UInt8)]) =
 Value.string
 (ByteArray.mk #[(97 : UInt8)]) ∧
 (2 : Int) = (2 : Int) ∧
 (0 : Int) = (0 : Int) ∧
 Value.string
 (ByteArray.mk #[(120 : UInt8)]) =
 Value.string
 (pk i (9 : Nat)
 (nm.extract (0 : Nat)
 (if
 (20 : Int) <
 (↑nm.size :
 Int) then
 (20 : Int)
 else
 (↑nm.size :
 Int)).toNat)
 (ByteArray.mk #[(120 : UInt8)])) ∧
 (0 : Int) = (0 : Int) ∧
 (0 : Int) = (0 : Int) ∧
 (0 : Int) = (0 : Int) ∧
 Value.string
 ByteArray.empty =
 Value.string
 ByteArray.empty ∧
 (0 : Int) = (0 : Int) ∧
 (0 : Int) = (0 : Int) ∧
 Value.string
 ByteArray.empty =
 Value.string
 ByteArray.empty ∧
 (5 : Int) =
 (5 : Int) ∧
 Value.string
 (ByteArray.mk #[(99 : UInt8)]) =
 Value.string
 (ByteArray.mk #[(99 : UInt8)]) ∧
 Value.string
 ByteArray.empty =
 Value.string
 ByteArray.empty ∧
 (0 : Int) =
 (0 :
 Int) ∧
 (0 : Int) =
 (0 :
 Int) ∧
 Value.string
 ByteArray.empty =
 Value.string
 ByteArray.empty ∧
 (0 :
 Int) =
 (0 :
 Int) ∧
 (0 :
 Int) =
 (0 :
 Int) ∧
 (0 :
 Int) =
 (0 :
 Int) ∧
 Value.string
 ByteArray.empty =
 Value.string
 ByteArray.empty ∧
 (0 :
 Int) =
 (0 :
 Int) ∧
 (0 :
 Int) =
 (0 :
 Int) ∧
 Value.string
 ByteArray.empty =
 Value.string
 ByteArray.empty ∧
 nat_lit
 1 =
 nat_lit
 1 ∧
 Value.string
 (ByteArray.mk #[(97 : UInt8)]) =
 Value.string
 (pk
 i
 (10 :
 Nat)
 (nm.extract
 (0 :
 Nat)
 (if
 (20 :
 Int) <
 (↑nm.size :
 Int) then
 (20 :
 Int)
 else
 (↑nm.size :
 Int)).toNat)
 (ByteArray.mk #[(97 : UInt8)])) ∧
 Value.string
 (nm.extract
 (0 :
 Nat)
 (if
 (20 :
 Int) <
 (↑nm.size :
 Int) then
 (20 :
 Int)
 else
 (↑nm.size :
 Int)).toNat) =
 Value.string
 (pk
 i
 (11 :
 Nat)
 (nm.extract
 (0 :
 Nat)
 (if
 (20 :
 Int) <
 (↑nm.size :
 Int) then
 (20 :
 Int)
 else
 (↑nm.size :
 Int)).toNat)
 (ByteArray.mk #[(120 : UInt8)])) ∧
 [[D.s
 (ByteArray.mk #[(97 : UInt8)])]] =
 [[D.s
 (pk
 i
 (3 :
 Nat)
 (nm.extract
 (0 :
 Nat)
 (if
 (20 :
 Int) <
 (↑nm.size :
 Int) then
 (20 :
 Int)
 else
 (↑nm.size :
 Int)).toNat)
 (ByteArray.mk #[(97 : UInt8)]))]] ∧
 [[D.i
 (0 :
 Int),
 D.s
 (ByteArray.mk #[(97 : UInt8)]),
 D.i
 (0 :
 Int)]] =
 [[D.i
 (0 :
 Int),
 D.s
 (pk
 i
 (5 :
 Nat)
 (nm.extract
 (0 :
 Nat)
 (if
 (20 :
 Int) <
 (↑nm.size :
 Int) then
 (20 :
 Int)
 else
 (↑nm.size :
 Int)).toNat)
 (ByteArray.mk #[(97 : UInt8)])),
 D.i
 (0 :
 Int)]] ∧
 [[D.s
 (ByteArray.mk #[(120 : UInt8)])]] =
 [[D.s
 (pk
 i
 (7 :
 Nat)
 (nm.extract
 (0 :
 Nat)
 (if
 (20 :
 Int) <
 (↑nm.size :
 Int) then
 (20 :
 Int)
 else
 (↑nm.size :
 Int)).toNat)
 (ByteArray.mk #[(120 : UInt8)]))]]) ∧
 ((IntKind.i64.wrap ((IntKind.u64.wrap a).tmod (12 : Int)) == (11 : Int)) = false →
 ∃ (i : Nat),
 (i = m12 a ∧ True) ∧
 Value.string
 (nm.extract (0 : Nat)
 (if (20 : Int) < (↑nm.size : Int) then (20 : Int) else (↑nm.size : Int)).toNat) =
 Value.string
 (nm.extract (0 : Nat)
 (if (20 : Int) < (↑nm.size : Int) then (20 : Int) else (↑nm.size : Int)).toNat) ∧
 false = false ∧
 (1 : Nat) = (1 : Nat) ∧
 (1 : Nat) = (1 : Nat) ∧
 (1 : Nat) = (1 : Nat) ∧
 Value.string (ByteArray.mk #[(99 : UInt8)]) =
 Value.string
 (pk i (0 : Nat)
 (nm.extract (0 : Nat)
 (if (20 : Int) < (↑nm.size : Int) then (20 : Int) else (↑nm.size : Int)).toNat)
 (ByteArray.mk #[(99 : UInt8)])) ∧
 (0 : Int) = (0 : Int) ∧
 (1 : Int) = (1 : Int) ∧
 Value.string (ByteArray.mk #[(112 : UInt8)]) =
 Value.string
 (pk i (1 : Nat)
 (nm.extract (0 : Nat)
 (if (20 : Int) < (↑nm.size : Int) then (20 : Int)
 else (↑nm.size : Int)).toNat)
 (ByteArray.mk #[(112 : UInt8)])) ∧
 Value.string (ByteArray.mk #[(113 : UInt8)]) =
 Value.string
 (pk i (2 : Nat)
 (nm.extract (0 : Nat)
 (if (20 : Int) < (↑nm.size : Int) then (20 : Int)
 else (↑nm.size : Int)).toNat)
 (ByteArray.mk #[(113 : UInt8)])) ∧
 (1 : Nat) = (1 : Nat) ∧
 Value.string (ByteArray.mk #[(99 : UInt8)]) =
 Value.string
 (pk i (4 : Nat)
 (nm.extract (0 : Nat)
 (if (20 : Int) < (↑nm.size : Int) then (20 : Int)
 else (↑nm.size : Int)).toNat)
 (ByteArray.mk #[(99 : UInt8)])) ∧
 (1 : Nat) = (1 : Nat) ∧
 Value.string (ByteArray.mk #[(112 : UInt8)]) =
 Value.string
 (pk i (6 : Nat)
 (nm.extract (0 : Nat)
 (if (20 : Int) < (↑nm.size : Int) then (20 : Int)
 else (↑nm.size : Int)).toNat)
 (ByteArray.mk #[(112 : UInt8)])) ∧
 (1 : Nat) = (1 : Nat) ∧
 (3 : Nat) = (3 : Nat) ∧
 (7 : Int) = (7 : Int) ∧
 Value.string (ByteArray.mk #[(120 : UInt8)]) =
 Value.string
 (pk i (8 : Nat)
 (nm.extract (0 : Nat)
 (if (20 : Int) < (↑nm.size : Int) then (20 : Int)
 else (↑nm.size : Int)).toNat)
 (ByteArray.mk #[(120 : UInt8)])) ∧
 Value.string ByteArray.empty = Value.string ByteArray.empty ∧
 (0 : Int) = (0 : Int) ∧
 (0 : Int) = (0 : Int) ∧
 Value.string ByteArray.empty = Value.string ByteArray.empty ∧
 (0 : Int) = (0 : Int) ∧
 (0 : Int) = (0 : Int) ∧
 (0 : Int) = (0 : Int) ∧
 Value.string ByteArray.empty =
 Value.string ByteArray.empty ∧
 (0 : Int) = (0 : Int) ∧
 (0 : Int) = (0 : Int) ∧
 Value.string ByteArray.empty =
 Value.string ByteArray.empty ∧
 (4 : Int) = (4 : Int) ∧
 Value.string (ByteArray.mk #[(99 : UInt8)]) =
 Value.string
 (ByteArray.mk #[(99 : UInt8)]) ∧
 Value.string (ByteArray.mk #[(97 : UInt8)]) =
 Value.string
 (ByteArray.mk #[(97 : UInt8)]) ∧
 (2 : Int) = (2 : Int) ∧
 (0 : Int) = (0 : Int) ∧
 Value.string
 (ByteArray.mk #[(120 : UInt8)]) =
 Value.string
 (pk i (9 : Nat)
 (nm.extract (0 : Nat)
 (if
 (20 : Int) <
 (↑nm.size :
 Int) then
 (20 : Int)
 else
 (↑nm.size :
 Int)).toNat)
 (ByteArray.mk #[(120 : UInt8)])) ∧
 (0 : Int) = (0 : Int) ∧
 (0 : Int) = (0 : Int) ∧
 (0 : Int) = (0 : Int) ∧
 Value.string
 ByteArray.empty =
 Value.string
 ByteArray.empty ∧
 (0 : Int) = (0 : Int) ∧
 (0 : Int) = (0 : Int) ∧
 Value.string
 ByteArray.empty =
 Value.string
 ByteArray.empty ∧
 (5 : Int) =
 (5 : Int) ∧
 Value.string
 (ByteArray.mk #[(99 : UInt8)]) =
 Value.string
 (ByteArray.mk #[(99 : UInt8)]) ∧
 Value.string
 ByteArray.empty =
 Value.string
 ByteArray.empty ∧
 (0 : Int) =
 (0 :
 Int) ∧
 (0 : Int) =
 (0 :
 Int) ∧
 Value.string
 ByteArray.empty =
 Value.string
 ByteArray.empty ∧
 (0 :
 Int) =
 (0 :
 Int) ∧
 (0 :
 Int) =
 (0 :
 Int) ∧
 (0 :
 Int) =
 (0 :
 Int) ∧
 Value.string
 ByteArray.empty =
 Value.string
 ByteArray.empty ∧
 (0 :
 Int) =
 (0 :
 Int) ∧
 (0 :
 Int) =
 (0 :
 Int) ∧
 Value.string
 ByteArray.empty =
 Value.string
 ByteArray.empty ∧
 nat_lit
 1 =
 nat_lit
 1 ∧
 Value.string
 (ByteArray.mk #[(97 : UInt8)]) =
 Value.string
 (pk
 i
 (10 :
 Nat)
 (nm.extract
 (0 :
 Nat)
 (if
 (20 :
 Int) <
 (↑nm.size :
 Int) then
 (20 :
 Int)
 else
 (↑nm.size :
 Int)).toNat)
 (ByteArray.mk #[(97 : UInt8)])) ∧
 Value.string
 (ByteArray.mk #[(120 : UInt8)]) =
 Value.string
 (pk
 i
 (11 :
 Nat)
 (nm.extract
 (0 :
 Nat)
 (if
 (20 :
 Int) <
 (↑nm.size :
 Int) then
 (20 :
 Int)
 else
 (↑nm.size :
 Int)).toNat)
 (ByteArray.mk #[(120 : UInt8)])) ∧
 [[D.s
 (ByteArray.mk #[(97 : UInt8)])]] =
 [[D.s
 (pk
 i
 (3 :
 Nat)
 (nm.extract
 (0 :
 Nat)
 (if
 (20 :
 Int) <
 (↑nm.size :
 Int) then
 (20 :
 Int)
 else
 (↑nm.size :
 Int)).toNat)
 (ByteArray.mk #[(97 : UInt8)]))]] ∧
 [[D.i
 (0 :
 Int),
 D.s
 (ByteArray.mk #[(97 : UInt8)]),
 D.i
 (0 :
 Int)]] =
 [[D.i
 (0 :
 Int),
 D.s
 (pk
 i
 (5 :
 Nat)
 (nm.extract
 (0 :
 Nat)
 (if
 (20 :
 Int) <
 (↑nm.size :
 Int) then
 (20 :
 Int)
 else
 (↑nm.size :
 Int)).toNat)
 (ByteArray.mk #[(97 : UInt8)])),
 D.i
 (0 :
 Int)]] ∧
 [[D.s
 (ByteArray.mk #[(120 : UInt8)])]] =
 [[D.s
 (pk
 i
 (7 :
 Nat)
 (nm.extract
 (0 :
 Nat)
 (if
 (20 :
 Int) <
 (↑nm.size :
 Int) then
 (20 :
 Int)
 else
 (↑nm.size :
 Int)).toNat)
 (ByteArray.mk #[(120 : UInt8)]))]]))))))))))))) ∧
 ∀ (i : Nat),
 i = m12 a ∧ True →
 (nm.extract (0 : Nat) (if (20 : Int) < (↑nm.size : Int) then (20 : Int) else (↑nm.size : Int)).toNat).size ≤ (140737488351232 : Nat) ∧
 (((lexR (nm.extract (0 : Nat) (if (20 : Int) < (↑nm.size : Int) then (20 : Int) else (↑nm.size : Int)).toNat)).snd.snd == (0 : Int) &&
 (↑(tokD (lexR (nm.extract (0 : Nat) (if (20 : Int) < (↑nm.size : Int) then (20 : Int) else (↑nm.size : Int)).toNat)).fst).len : Int) ==
 (1 : Int)) =
 true ∧
 True →
 (0 : Nat) < (tokD (lexR (nm.extract (0 : Nat) (if (20 : Int) < (↑nm.size : Int) then (20 : Int) else (↑nm.size : Int)).toNat)).fst).len) ∧
 (((lexR (nm.extract (0 : Nat) (if (20 : Int) < (↑nm.size : Int) then (20 : Int) else (↑nm.size : Int)).toNat)).snd.snd == (0 : Int) &&
 (↑(tokD (lexR (nm.extract (0 : Nat) (if (20 : Int) < (↑nm.size : Int) then (20 : Int) else (↑nm.size : Int)).toNat)).fst).len : Int) ==
 (1 : Int) &&
 ((tokD (lexR (nm.extract (0 : Nat) (if (20 : Int) < (↑nm.size : Int) then (20 : Int) else (↑nm.size : Int)).toNat)).fst).el ((0 : Nat))
 ((0 : Nat) + (0 : Nat))).toI ==
 (1 : Int)) =
 true ∧
 True →
 (0 : Nat) < (tokD (lexR (nm.extract (0 : Nat) (if (20 : Int) < (↑nm.size : Int) then (20 : Int) else (↑nm.size : Int)).toNat)).fst).len) ∧
 (0 : Nat) + (1 : Nat) ≤
 (D.l
 [[D.s
 (pk i (3 : Nat) (nm.extract (0 : Nat) (if (20 : Int) < (↑nm.size : Int) then (20 : Int) else (↑nm.size : Int)).toNat)
 (ByteArray.mk #[(97 : UInt8)]))]]).len ∧
 (0 : Nat) + (1 : Nat) ≤
 (D.l
 [[D.i (0 : Int),
 D.s
 (pk i (5 : Nat) (nm.extract (0 : Nat) (if (20 : Int) < (↑nm.size : Int) then (20 : Int) else (↑nm.size : Int)).toNat)
 (ByteArray.mk #[(97 : UInt8)])),
 D.i (0 : Int)]]).len ∧
 (0 : Nat) + (1 : Nat) ≤
 (D.l
 [[D.s
 (pk i (7 : Nat) (nm.extract (0 : Nat) (if (20 : Int) < (↑nm.size : Int) then (20 : Int) else (↑nm.size : Int)).toNat)
 (ByteArray.mk #[(120 : UInt8)]))]]).len ∧
 SyS
 (D.l
 [[D.s
 (pk i (0 : Nat) (nm.extract (0 : Nat) (if (20 : Int) < (↑nm.size : Int) then (20 : Int) else (↑nm.size : Int)).toNat)
 (ByteArray.mk #[(99 : UInt8)])),
 D.i (0 : Int), D.i (1 : Int),
 D.s
 (pk i (1 : Nat) (nm.extract (0 : Nat) (if (20 : Int) < (↑nm.size : Int) then (20 : Int) else (↑nm.size : Int)).toNat)
 (ByteArray.mk #[(112 : UInt8)])),
 D.s
 (pk i (2 : Nat) (nm.extract (0 : Nat) (if (20 : Int) < (↑nm.size : Int) then (20 : Int) else (↑nm.size : Int)).toNat)
 (ByteArray.mk #[(113 : UInt8)])),
 (D.l
 [[D.s
 (pk i (3 : Nat) (nm.extract (0 : Nat) (if (20 : Int) < (↑nm.size : Int) then (20 : Int) else (↑nm.size : Int)).toNat)
 (ByteArray.mk #[(97 : UInt8)]))]]).sub
 ((0 : Nat)) ((0 : Nat) + (1 : Nat))]])
 (D.l
 [[D.s
 (pk i (4 : Nat) (nm.extract (0 : Nat) (if (20 : Int) < (↑nm.size : Int) then (20 : Int) else (↑nm.size : Int)).toNat)
 (ByteArray.mk #[(99 : UInt8)])),
 (D.l
 [[D.i (0 : Int),
 D.s
 (pk i (5 : Nat) (nm.extract (0 : Nat) (if (20 : Int) < (↑nm.size : Int) then (20 : Int) else (↑nm.size : Int)).toNat)
 (ByteArray.mk #[(97 : UInt8)])),
 D.i (0 : Int)]]).sub
 ((0 : Nat)) ((0 : Nat) + (1 : Nat))]])
 (D.l
 [[D.s
 (pk i (6 : Nat) (nm.extract (0 : Nat) (if (20 : Int) < (↑nm.size : Int) then (20 : Int) else (↑nm.size : Int)).toNat)
 (ByteArray.mk #[(112 : UInt8)])),
 (D.l
 [[D.s
 (pk i (7 : Nat) (nm.extract (0 : Nat) (if (20 : Int) < (↑nm.size : Int) then (20 : Int) else (↑nm.size : Int)).toNat)
 (ByteArray.mk #[(120 : UInt8)]))]]).sub
 ((0 : Nat)) ((0 : Nat) + (1 : Nat)),
 D.l
 [[D.i (7 : Int),
 D.s
 (pk i (8 : Nat) (nm.extract (0 : Nat) (if (20 : Int) < (↑nm.size : Int) then (20 : Int) else (↑nm.size : Int)).toNat)
 (ByteArray.mk #[(120 : UInt8)])),
 D.s ByteArray.empty, D.i (0 : Int), D.i (0 : Int), D.s ByteArray.empty, D.l [], D.i (0 : Int), D.i (0 : Int), D.i (0 : Int),
 D.s ByteArray.empty, D.l [], D.i (0 : Int), D.i (0 : Int), D.s ByteArray.empty, D.l [], D.l [], D.l [], D.l []],
 [D.i (4 : Int), D.s (ByteArray.mk #[(99 : UInt8)]), D.s (ByteArray.mk #[(97 : UInt8)]), D.i (2 : Int), D.i (0 : Int),
 D.s
 (pk i (9 : Nat) (nm.extract (0 : Nat) (if (20 : Int) < (↑nm.size : Int) then (20 : Int) else (↑nm.size : Int)).toNat)
 (ByteArray.mk #[(120 : UInt8)])),
 D.l [], D.i (0 : Int), D.i (0 : Int), D.i (0 : Int), D.s ByteArray.empty, D.l [], D.i (0 : Int), D.i (0 : Int),
 D.s ByteArray.empty, D.l [], D.l [], D.l [], D.l []],
 [D.i (5 : Int), D.s (ByteArray.mk #[(99 : UInt8)]), D.s ByteArray.empty, D.i (0 : Int), D.i (0 : Int), D.s ByteArray.empty,
 D.l [], D.i (0 : Int), D.i (0 : Int), D.i (0 : Int), D.s ByteArray.empty, D.l [], D.i (0 : Int), D.i (0 : Int),
 D.s ByteArray.empty, D.l [], D.l [], D.l [],
 D.l
 [[D.s
 (pk i (10 : Nat)
 (nm.extract (0 : Nat) (if (20 : Int) < (↑nm.size : Int) then (20 : Int) else (↑nm.size : Int)).toNat)
 (ByteArray.mk #[(97 : UInt8)])),
 D.s
 (pk i (11 : Nat)
 (nm.extract (0 : Nat) (if (20 : Int) < (↑nm.size : Int) then (20 : Int) else (↑nm.size : Int)).toNat)
 (ByteArray.mk #[(120 : UInt8)])),
 D.l []]]]]]]) ∧
 SyOK
 (cpC
 (D.l
 [[D.s
 (pk i (0 : Nat) (nm.extract (0 : Nat) (if (20 : Int) < (↑nm.size : Int) then (20 : Int) else (↑nm.size : Int)).toNat)
 (ByteArray.mk #[(99 : UInt8)])),
 D.i (0 : Int), D.i (1 : Int),
 D.s
 (pk i (1 : Nat) (nm.extract (0 : Nat) (if (20 : Int) < (↑nm.size : Int) then (20 : Int) else (↑nm.size : Int)).toNat)
 (ByteArray.mk #[(112 : UInt8)])),
 D.s
 (pk i (2 : Nat) (nm.extract (0 : Nat) (if (20 : Int) < (↑nm.size : Int) then (20 : Int) else (↑nm.size : Int)).toNat)
 (ByteArray.mk #[(113 : UInt8)])),
 (D.l
 [[D.s
 (pk i (3 : Nat)
 (nm.extract (0 : Nat) (if (20 : Int) < (↑nm.size : Int) then (20 : Int) else (↑nm.size : Int)).toNat)
 (ByteArray.mk #[(97 : UInt8)]))]]).sub
 ((0 : Nat)) ((0 : Nat) + (1 : Nat))]]))
 (cpU
 (D.l
 [[D.s
 (pk i (4 : Nat) (nm.extract (0 : Nat) (if (20 : Int) < (↑nm.size : Int) then (20 : Int) else (↑nm.size : Int)).toNat)
 (ByteArray.mk #[(99 : UInt8)])),
 (D.l
 [[D.i (0 : Int),
 D.s
 (pk i (5 : Nat)
 (nm.extract (0 : Nat) (if (20 : Int) < (↑nm.size : Int) then (20 : Int) else (↑nm.size : Int)).toNat)
 (ByteArray.mk #[(97 : UInt8)])),
 D.i (0 : Int)]]).sub
 ((0 : Nat)) ((0 : Nat) + (1 : Nat))]]))
 (cpP
 (D.l
 [[D.s
 (pk i (6 : Nat) (nm.extract (0 : Nat) (if (20 : Int) < (↑nm.size : Int) then (20 : Int) else (↑nm.size : Int)).toNat)
 (ByteArray.mk #[(112 : UInt8)])),
 (D.l
 [[D.s
 (pk i (7 : Nat)
 (nm.extract (0 : Nat) (if (20 : Int) < (↑nm.size : Int) then (20 : Int) else (↑nm.size : Int)).toNat)
 (ByteArray.mk #[(120 : UInt8)]))]]).sub
 ((0 : Nat)) ((0 : Nat) + (1 : Nat)),
 D.l
 [[D.i (7 : Int),
 D.s
 (pk i (8 : Nat) (nm.extract (0 : Nat) (if (20 : Int) < (↑nm.size : Int) then (20 : Int) else (↑nm.size : Int)).toNat)
 (ByteArray.mk #[(120 : UInt8)])),
 D.s ByteArray.empty, D.i (0 : Int), D.i (0 : Int), D.s ByteArray.empty, D.l [], D.i (0 : Int), D.i (0 : Int),
 D.i (0 : Int), D.s ByteArray.empty, D.l [], D.i (0 : Int), D.i (0 : Int), D.s ByteArray.empty, D.l [], D.l [], D.l [],
 D.l []],
 [D.i (4 : Int), D.s (ByteArray.mk #[(99 : UInt8)]), D.s (ByteArray.mk #[(97 : UInt8)]), D.i (2 : Int), D.i (0 : Int),
 D.s
 (pk i (9 : Nat) (nm.extract (0 : Nat) (if (20 : Int) < (↑nm.size : Int) then (20 : Int) else (↑nm.size : Int)).toNat)
 (ByteArray.mk #[(120 : UInt8)])),
 D.l [], D.i (0 : Int), D.i (0 : Int), D.i (0 : Int), D.s ByteArray.empty, D.l [], D.i (0 : Int), D.i (0 : Int),
 D.s ByteArray.empty, D.l [], D.l [], D.l [], D.l []],
 [D.i (5 : Int), D.s (ByteArray.mk #[(99 : UInt8)]), D.s ByteArray.empty, D.i (0 : Int), D.i (0 : Int), D.s ByteArray.empty,
 D.l [], D.i (0 : Int), D.i (0 : Int), D.i (0 : Int), D.s ByteArray.empty, D.l [], D.i (0 : Int), D.i (0 : Int),
 D.s ByteArray.empty, D.l [], D.l [], D.l [],
 D.l
 [[D.s
 (pk i (10 : Nat)
 (nm.extract (0 : Nat) (if (20 : Int) < (↑nm.size : Int) then (20 : Int) else (↑nm.size : Int)).toNat)
 (ByteArray.mk #[(97 : UInt8)])),
 D.s
 (pk i (11 : Nat)
 (nm.extract (0 : Nat) (if (20 : Int) < (↑nm.size : Int) then (20 : Int) else (↑nm.size : Int)).toNat)
 (ByteArray.mk #[(120 : UInt8)])),
 D.l []]]]]]])) ∧
 (syB
 (cpC
 (D.l
 [[D.s
 (pk i (0 : Nat) (nm.extract (0 : Nat) (if (20 : Int) < (↑nm.size : Int) then (20 : Int) else (↑nm.size : Int)).toNat)
 (ByteArray.mk #[(99 : UInt8)])),
 D.i (0 : Int), D.i (1 : Int),
 D.s
 (pk i (1 : Nat) (nm.extract (0 : Nat) (if (20 : Int) < (↑nm.size : Int) then (20 : Int) else (↑nm.size : Int)).toNat)
 (ByteArray.mk #[(112 : UInt8)])),
 D.s
 (pk i (2 : Nat) (nm.extract (0 : Nat) (if (20 : Int) < (↑nm.size : Int) then (20 : Int) else (↑nm.size : Int)).toNat)
 (ByteArray.mk #[(113 : UInt8)])),
 (D.l
 [[D.s
 (pk i (3 : Nat)
 (nm.extract (0 : Nat) (if (20 : Int) < (↑nm.size : Int) then (20 : Int) else (↑nm.size : Int)).toNat)
 (ByteArray.mk #[(97 : UInt8)]))]]).sub
 ((0 : Nat)) ((0 : Nat) + (1 : Nat))]]))
 (cpU
 (D.l
 [[D.s
 (pk i (4 : Nat) (nm.extract (0 : Nat) (if (20 : Int) < (↑nm.size : Int) then (20 : Int) else (↑nm.size : Int)).toNat)
 (ByteArray.mk #[(99 : UInt8)])),
 (D.l
 [[D.i (0 : Int),
 D.s
 (pk i (5 : Nat)
 (nm.extract (0 : Nat) (if (20 : Int) < (↑nm.size : Int) then (20 : Int) else (↑nm.size : Int)).toNat)
 (ByteArray.mk #[(97 : UInt8)])),
 D.i (0 : Int)]]).sub
 ((0 : Nat)) ((0 : Nat) + (1 : Nat))]]))
 (cpP
 (D.l
 [[D.s
 (pk i (6 : Nat) (nm.extract (0 : Nat) (if (20 : Int) < (↑nm.size : Int) then (20 : Int) else (↑nm.size : Int)).toNat)
 (ByteArray.mk #[(112 : UInt8)])),
 (D.l
 [[D.s
 (pk i (7 : Nat)
 (nm.extract (0 : Nat) (if (20 : Int) < (↑nm.size : Int) then (20 : Int) else (↑nm.size : Int)).toNat)
 (ByteArray.mk #[(120 : UInt8)]))]]).sub
 ((0 : Nat)) ((0 : Nat) + (1 : Nat)),
 D.l
 [[D.i (7 : Int),
 D.s
 (pk i (8 : Nat)
 (nm.extract (0 : Nat) (if (20 : Int) < (↑nm.size : Int) then (20 : Int) else (↑nm.size : Int)).toNat)
 (ByteArray.mk #[(120 : UInt8)])),
 D.s ByteArray.empty, D.i (0 : Int), D.i (0 : Int), D.s ByteArray.empty, D.l [], D.i (0 : Int), D.i (0 : Int),
 D.i (0 : Int), D.s ByteArray.empty, D.l [], D.i (0 : Int), D.i (0 : Int), D.s ByteArray.empty, D.l [], D.l [],
 D.l [], D.l []],
 [D.i (4 : Int), D.s (ByteArray.mk #[(99 : UInt8)]), D.s (ByteArray.mk #[(97 : UInt8)]), D.i (2 : Int), D.i (0 : Int),
 D.s
 (pk i (9 : Nat)
 (nm.extract (0 : Nat) (if (20 : Int) < (↑nm.size : Int) then (20 : Int) else (↑nm.size : Int)).toNat)
 (ByteArray.mk #[(120 : UInt8)])),
 D.l [], D.i (0 : Int), D.i (0 : Int), D.i (0 : Int), D.s ByteArray.empty, D.l [], D.i (0 : Int), D.i (0 : Int),
 D.s ByteArray.empty, D.l [], D.l [], D.l [], D.l []],
 [D.i (5 : Int), D.s (ByteArray.mk #[(99 : UInt8)]), D.s ByteArray.empty, D.i (0 : Int), D.i (0 : Int),
 D.s ByteArray.empty, D.l [], D.i (0 : Int), D.i (0 : Int), D.i (0 : Int), D.s ByteArray.empty, D.l [],
 D.i (0 : Int), D.i (0 : Int), D.s ByteArray.empty, D.l [], D.l [], D.l [],
 D.l
 [[D.s
 (pk i (10 : Nat)
 (nm.extract (0 : Nat) (if (20 : Int) < (↑nm.size : Int) then (20 : Int) else (↑nm.size : Int)).toNat)
 (ByteArray.mk #[(97 : UInt8)])),
 D.s
 (pk i (11 : Nat)
 (nm.extract (0 : Nat) (if (20 : Int) < (↑nm.size : Int) then (20 : Int) else (↑nm.size : Int)).toNat)
 (ByteArray.mk #[(120 : UInt8)])),
 D.l []]]]]]])) =
 true →
 syN
 (cpP
 (D.l
 [[D.s
 (pk i (6 : Nat)
 (nm.extract (0 : Nat) (if (20 : Int) < (↑nm.size : Int) then (20 : Int) else (↑nm.size : Int)).toNat)
 (ByteArray.mk #[(112 : UInt8)])),
 (D.l
 [[D.s
 (pk i (7 : Nat)
 (nm.extract (0 : Nat) (if (20 : Int) < (↑nm.size : Int) then (20 : Int) else (↑nm.size : Int)).toNat)
 (ByteArray.mk #[(120 : UInt8)]))]]).sub
 ((0 : Nat)) ((0 : Nat) + (1 : Nat)),
 D.l
 [[D.i (7 : Int),
 D.s
 (pk i (8 : Nat)
 (nm.extract (0 : Nat) (if (20 : Int) < (↑nm.size : Int) then (20 : Int) else (↑nm.size : Int)).toNat)
 (ByteArray.mk #[(120 : UInt8)])),
 D.s ByteArray.empty, D.i (0 : Int), D.i (0 : Int), D.s ByteArray.empty, D.l [], D.i (0 : Int), D.i (0 : Int),
 D.i (0 : Int), D.s ByteArray.empty, D.l [], D.i (0 : Int), D.i (0 : Int), D.s ByteArray.empty, D.l [], D.l [],
 D.l [], D.l []],
 [D.i (4 : Int), D.s (ByteArray.mk #[(99 : UInt8)]), D.s (ByteArray.mk #[(97 : UInt8)]), D.i (2 : Int), D.i (0 : Int),
 D.s
 (pk i (9 : Nat)
 (nm.extract (0 : Nat) (if (20 : Int) < (↑nm.size : Int) then (20 : Int) else (↑nm.size : Int)).toNat)
 (ByteArray.mk #[(120 : UInt8)])),
 D.l [], D.i (0 : Int), D.i (0 : Int), D.i (0 : Int), D.s ByteArray.empty, D.l [], D.i (0 : Int), D.i (0 : Int),
 D.s ByteArray.empty, D.l [], D.l [], D.l [], D.l []],
 [D.i (5 : Int), D.s (ByteArray.mk #[(99 : UInt8)]), D.s ByteArray.empty, D.i (0 : Int), D.i (0 : Int),
 D.s ByteArray.empty, D.l [], D.i (0 : Int), D.i (0 : Int), D.i (0 : Int), D.s ByteArray.empty, D.l [],
 D.i (0 : Int), D.i (0 : Int), D.s ByteArray.empty, D.l [], D.l [], D.l [],
 D.l
 [[D.s
 (pk i (10 : Nat)
 (nm.extract (0 : Nat) (if (20 : Int) < (↑nm.size : Int) then (20 : Int) else (↑nm.size : Int)).toNat)
 (ByteArray.mk #[(97 : UInt8)])),
 D.s
 (pk i (11 : Nat)
 (nm.extract (0 : Nat) (if (20 : Int) < (↑nm.size : Int) then (20 : Int) else (↑nm.size : Int)).toNat)
 (ByteArray.mk #[(120 : UInt8)])),
 D.l []]]]]]])) =
 true →
 SyF
 (cpC
 (D.l
 [[D.s
 (pk i (0 : Nat) (nm.extract (0 : Nat) (if (20 : Int) < (↑nm.size : Int) then (20 : Int) else (↑nm.size : Int)).toNat)
 (ByteArray.mk #[(99 : UInt8)])),
 D.i (0 : Int), D.i (1 : Int),
 D.s
 (pk i (1 : Nat) (nm.extract (0 : Nat) (if (20 : Int) < (↑nm.size : Int) then (20 : Int) else (↑nm.size : Int)).toNat)
 (ByteArray.mk #[(112 : UInt8)])),
 D.s
 (pk i (2 : Nat) (nm.extract (0 : Nat) (if (20 : Int) < (↑nm.size : Int) then (20 : Int) else (↑nm.size : Int)).toNat)
 (ByteArray.mk #[(113 : UInt8)])),
 (D.l
 [[D.s
 (pk i (3 : Nat)
 (nm.extract (0 : Nat) (if (20 : Int) < (↑nm.size : Int) then (20 : Int) else (↑nm.size : Int)).toNat)
 (ByteArray.mk #[(97 : UInt8)]))]]).sub
 ((0 : Nat)) ((0 : Nat) + (1 : Nat))]]))
 (cpU
 (D.l
 [[D.s
 (pk i (4 : Nat) (nm.extract (0 : Nat) (if (20 : Int) < (↑nm.size : Int) then (20 : Int) else (↑nm.size : Int)).toNat)
 (ByteArray.mk #[(99 : UInt8)])),
 (D.l
 [[D.i (0 : Int),
 D.s
 (pk i (5 : Nat)
 (nm.extract (0 : Nat) (if (20 : Int) < (↑nm.size : Int) then (20 : Int) else (↑nm.size : Int)).toNat)
 (ByteArray.mk #[(97 : UInt8)])),
 D.i (0 : Int)]]).sub
 ((0 : Nat)) ((0 : Nat) + (1 : Nat))]]))
 (cpP
 (D.l
 [[D.s
 (pk i (6 : Nat) (nm.extract (0 : Nat) (if (20 : Int) < (↑nm.size : Int) then (20 : Int) else (↑nm.size : Int)).toNat)
 (ByteArray.mk #[(112 : UInt8)])),
 (D.l
 [[D.s
 (pk i (7 : Nat)
 (nm.extract (0 : Nat) (if (20 : Int) < (↑nm.size : Int) then (20 : Int) else (↑nm.size : Int)).toNat)
 (ByteArray.mk #[(120 : UInt8)]))]]).sub
 ((0 : Nat)) ((0 : Nat) + (1 : Nat)),
 D.l
 [[D.i (7 : Int),
 D.s
 (pk i (8 : Nat)
 (nm.extract (0 : Nat) (if (20 : Int) < (↑nm.size : Int) then (20 : Int) else (↑nm.size : Int)).toNat)
 (ByteArray.mk #[(120 : UInt8)])),
 D.s ByteArray.empty, D.i (0 : Int), D.i (0 : Int), D.s ByteArray.empty, D.l [], D.i (0 : Int), D.i (0 : Int),
 D.i (0 : Int), D.s ByteArray.empty, D.l [], D.i (0 : Int), D.i (0 : Int), D.s ByteArray.empty, D.l [], D.l [],
 D.l [], D.l []],
 [D.i (4 : Int), D.s (ByteArray.mk #[(99 : UInt8)]), D.s (ByteArray.mk #[(97 : UInt8)]), D.i (2 : Int), D.i (0 : Int),
 D.s
 (pk i (9 : Nat)
 (nm.extract (0 : Nat) (if (20 : Int) < (↑nm.size : Int) then (20 : Int) else (↑nm.size : Int)).toNat)
 (ByteArray.mk #[(120 : UInt8)])),
 D.l [], D.i (0 : Int), D.i (0 : Int), D.i (0 : Int), D.s ByteArray.empty, D.l [], D.i (0 : Int), D.i (0 : Int),
 D.s ByteArray.empty, D.l [], D.l [], D.l [], D.l []],
 [D.i (5 : Int), D.s (ByteArray.mk #[(99 : UInt8)]), D.s ByteArray.empty, D.i (0 : Int), D.i (0 : Int),
 D.s ByteArray.empty, D.l [], D.i (0 : Int), D.i (0 : Int), D.i (0 : Int), D.s ByteArray.empty, D.l [],
 D.i (0 : Int), D.i (0 : Int), D.s ByteArray.empty, D.l [], D.l [], D.l [],
 D.l
 [[D.s
 (pk i (10 : Nat)
 (nm.extract (0 : Nat) (if (20 : Int) < (↑nm.size : Int) then (20 : Int) else (↑nm.size : Int)).toNat)
 (ByteArray.mk #[(97 : UInt8)])),
 D.s
 (pk i (11 : Nat)
 (nm.extract (0 : Nat) (if (20 : Int) < (↑nm.size : Int) then (20 : Int) else (↑nm.size : Int)).toNat)
 (ByteArray.mk #[(120 : UInt8)])),
 D.l []]]]]]]))) ∧
 (∀ (i_1 : Nat),
 i_1 <
 (wdA
 (cpC
 (D.l
 [[D.s
 (pk i (0 : Nat)
 (nm.extract (0 : Nat) (if (20 : Int) < (↑nm.size : Int) then (20 : Int) else (↑nm.size : Int)).toNat)
 (ByteArray.mk #[(99 : UInt8)])),
 D.i (0 : Int), D.i (1 : Int),
 D.s
 (pk i (1 : Nat)
 (nm.extract (0 : Nat) (if (20 : Int) < (↑nm.size : Int) then (20 : Int) else (↑nm.size : Int)).toNat)
 (ByteArray.mk #[(112 : UInt8)])),
 D.s
 (pk i (2 : Nat)
 (nm.extract (0 : Nat) (if (20 : Int) < (↑nm.size : Int) then (20 : Int) else (↑nm.size : Int)).toNat)
 (ByteArray.mk #[(113 : UInt8)])),
 (D.l
 [[D.s
 (pk i (3 : Nat)
 (nm.extract (0 : Nat)
 (if (20 : Int) < (↑nm.size : Int) then (20 : Int) else (↑nm.size : Int)).toNat)
 (ByteArray.mk #[(97 : UInt8)]))]]).sub
 ((0 : Nat)) ((0 : Nat) + (1 : Nat))]]))
 (cpU
 (D.l
 [[D.s
 (pk i (4 : Nat)
 (nm.extract (0 : Nat) (if (20 : Int) < (↑nm.size : Int) then (20 : Int) else (↑nm.size : Int)).toNat)
 (ByteArray.mk #[(99 : UInt8)])),
 (D.l
 [[D.i (0 : Int),
 D.s
 (pk i (5 : Nat)
 (nm.extract (0 : Nat)
 (if (20 : Int) < (↑nm.size : Int) then (20 : Int) else (↑nm.size : Int)).toNat)
 (ByteArray.mk #[(97 : UInt8)])),
 D.i (0 : Int)]]).sub
 ((0 : Nat)) ((0 : Nat) + (1 : Nat))]]))
 (cpP
 (D.l
 [[D.s
 (pk i (6 : Nat)
 (nm.extract (0 : Nat) (if (20 : Int) < (↑nm.size : Int) then (20 : Int) else (↑nm.size : Int)).toNat)
 (ByteArray.mk #[(112 : UInt8)])),
 (D.l
 [[D.s
 (pk i (7 : Nat)
 (nm.extract (0 : Nat)
 (if (20 : Int) < (↑nm.size : Int) then (20 : Int) else (↑nm.size : Int)).toNat)
 (ByteArray.mk #[(120 : UInt8)]))]]).sub
 ((0 : Nat)) ((0 : Nat) + (1 : Nat)),
 D.l
 [[D.i (7 : Int),
 D.s
 (pk i (8 : Nat)
 (nm.extract (0 : Nat) (if (20 : Int) < (↑nm.size : Int) then (20 : Int) else (↑nm.size : Int)).toNat)
 (ByteArray.mk #[(120 : UInt8)])),
 D.s ByteArray.empty, D.i (0 : Int), D.i (0 : Int), D.s ByteArray.empty, D.l [], D.i (0 : Int),
 D.i (0 : Int), D.i (0 : Int), D.s ByteArray.empty, D.l [], D.i (0 : Int), D.i (0 : Int),
 D.s ByteArray.empty, D.l [], D.l [], D.l [], D.l []],
 [D.i (4 : Int), D.s (ByteArray.mk #[(99 : UInt8)]), D.s (ByteArray.mk #[(97 : UInt8)]), D.i (2 : Int),
 D.i (0 : Int),
 D.s
 (pk i (9 : Nat)
 (nm.extract (0 : Nat) (if (20 : Int) < (↑nm.size : Int) then (20 : Int) else (↑nm.size : Int)).toNat)
 (ByteArray.mk #[(120 : UInt8)])),
 D.l [], D.i (0 : Int), D.i (0 : Int), D.i (0 : Int), D.s ByteArray.empty, D.l [], D.i (0 : Int),
 D.i (0 : Int), D.s ByteArray.empty, D.l [], D.l [], D.l [], D.l []],
 [D.i (5 : Int), D.s (ByteArray.mk #[(99 : UInt8)]), D.s ByteArray.empty, D.i (0 : Int), D.i (0 : Int),
 D.s ByteArray.empty, D.l [], D.i (0 : Int), D.i (0 : Int), D.i (0 : Int), D.s ByteArray.empty, D.l [],
 D.i (0 : Int), D.i (0 : Int), D.s ByteArray.empty, D.l [], D.l [], D.l [],
 D.l
 [[D.s
 (pk i (10 : Nat)
 (nm.extract (0 : Nat)
 (if (20 : Int) < (↑nm.size : Int) then (20 : Int) else (↑nm.size : Int)).toNat)
 (ByteArray.mk #[(97 : UInt8)])),
 D.s
 (pk i (11 : Nat)
 (nm.extract (0 : Nat)
 (if (20 : Int) < (↑nm.size : Int) then (20 : Int) else (↑nm.size : Int)).toNat)
 (ByteArray.mk #[(120 : UInt8)])),
 D.l []]]]]]]))).len →
 ((wdA
 (cpC
 (D.l
 [[D.s
 (pk i (0 : Nat)
 (nm.extract (0 : Nat) (if (20 : Int) < (↑nm.size : Int) then (20 : Int) else (↑nm.size : Int)).toNat)
 (ByteArray.mk #[(99 : UInt8)])),
 D.i (0 : Int), D.i (1 : Int),
 D.s
 (pk i (1 : Nat)
 (nm.extract (0 : Nat) (if (20 : Int) < (↑nm.size : Int) then (20 : Int) else (↑nm.size : Int)).toNat)
 (ByteArray.mk #[(112 : UInt8)])),
 D.s
 (pk i (2 : Nat)
 (nm.extract (0 : Nat) (if (20 : Int) < (↑nm.size : Int) then (20 : Int) else (↑nm.size : Int)).toNat)
 (ByteArray.mk #[(113 : UInt8)])),
 (D.l
 [[D.s
 (pk i (3 : Nat)
 (nm.extract (0 : Nat)
 (if (20 : Int) < (↑nm.size : Int) then (20 : Int) else (↑nm.size : Int)).toNat)
 (ByteArray.mk #[(97 : UInt8)]))]]).sub
 ((0 : Nat)) ((0 : Nat) + (1 : Nat))]]))
 (cpU
 (D.l
 [[D.s
 (pk i (4 : Nat)
 (nm.extract (0 : Nat) (if (20 : Int) < (↑nm.size : Int) then (20 : Int) else (↑nm.size : Int)).toNat)
 (ByteArray.mk #[(99 : UInt8)])),
 (D.l
 [[D.i (0 : Int),
 D.s
 (pk i (5 : Nat)
 (nm.extract (0 : Nat)
 (if (20 : Int) < (↑nm.size : Int) then (20 : Int) else (↑nm.size : Int)).toNat)
 (ByteArray.mk #[(97 : UInt8)])),
 D.i (0 : Int)]]).sub
 ((0 : Nat)) ((0 : Nat) + (1 : Nat))]]))
 (cpP
 (D.l
 [[D.s
 (pk i (6 : Nat)
 (nm.extract (0 : Nat) (if (20 : Int) < (↑nm.size : Int) then (20 : Int) else (↑nm.size : Int)).toNat)
 (ByteArray.mk #[(112 : UInt8)])),
 (D.l
 [[D.s
 (pk i (7 : Nat)
 (nm.extract (0 : Nat)
 (if (20 : Int) < (↑nm.size : Int) then (20 : Int) else (↑nm.size : Int)).toNat)
 (ByteArray.mk #[(120 : UInt8)]))]]).sub
 ((0 : Nat)) ((0 : Nat) + (1 : Nat)),
 D.l
 [[D.i (7 : Int),
 D.s
 (pk i (8 : Nat)
 (nm.extract (0 : Nat)
 (if (20 : Int) < (↑nm.size : Int) then (20 : Int) else (↑nm.size : Int)).toNat)
 (ByteArray.mk #[(120 : UInt8)])),
 D.s ByteArray.empty, D.i (0 : Int), D.i (0 : Int), D.s ByteArray.empty, D.l [], D.i (0 : Int),
 D.i (0 : Int), D.i (0 : Int), D.s ByteArray.empty, D.l [], D.i (0 : Int), D.i (0 : Int),
 D.s ByteArray.empty, D.l [], D.l [], D.l [], D.l []],
 [D.i (4 : Int), D.s (ByteArray.mk #[(99 : UInt8)]), D.s (ByteArray.mk #[(97 : UInt8)]), D.i (2 : Int),
 D.i (0 : Int),
 D.s
 (pk i (9 : Nat)
 (nm.extract (0 : Nat)
 (if (20 : Int) < (↑nm.size : Int) then (20 : Int) else (↑nm.size : Int)).toNat)
 (ByteArray.mk #[(120 : UInt8)])),
 D.l [], D.i (0 : Int), D.i (0 : Int), D.i (0 : Int), D.s ByteArray.empty, D.l [], D.i (0 : Int),
 D.i (0 : Int), D.s ByteArray.empty, D.l [], D.l [], D.l [], D.l []],
 [D.i (5 : Int), D.s (ByteArray.mk #[(99 : UInt8)]), D.s ByteArray.empty, D.i (0 : Int), D.i (0 : Int),
 D.s ByteArray.empty, D.l [], D.i (0 : Int), D.i (0 : Int), D.i (0 : Int), D.s ByteArray.empty, D.l [],
 D.i (0 : Int), D.i (0 : Int), D.s ByteArray.empty, D.l [], D.l [], D.l [],
 D.l
 [[D.s
 (pk i (10 : Nat)
 (nm.extract (0 : Nat)
 (if (20 : Int) < (↑nm.size : Int) then (20 : Int) else (↑nm.size : Int)).toNat)
 (ByteArray.mk #[(97 : UInt8)])),
 D.s
 (pk i (11 : Nat)
 (nm.extract (0 : Nat)
 (if (20 : Int) < (↑nm.size : Int) then (20 : Int) else (↑nm.size : Int)).toNat)
 (ByteArray.mk #[(120 : UInt8)])),
 D.l []]]]]]]))).el
 i_1 (0 : Nat)).toS.size ≤
 (1000000000 : Nat)) ∧
 ((wdE
 (cpC
 (D.l
 [[D.s
 (pk i (0 : Nat)
 (nm.extract (0 : Nat) (if (20 : Int) < (↑nm.size : Int) then (20 : Int) else (↑nm.size : Int)).toNat)
 (ByteArray.mk #[(99 : UInt8)])),
 D.i (0 : Int), D.i (1 : Int),
 D.s
 (pk i (1 : Nat)
 (nm.extract (0 : Nat) (if (20 : Int) < (↑nm.size : Int) then (20 : Int) else (↑nm.size : Int)).toNat)
 (ByteArray.mk #[(112 : UInt8)])),
 D.s
 (pk i (2 : Nat)
 (nm.extract (0 : Nat) (if (20 : Int) < (↑nm.size : Int) then (20 : Int) else (↑nm.size : Int)).toNat)
 (ByteArray.mk #[(113 : UInt8)])),
 (D.l
 [[D.s
 (pk i (3 : Nat)
 (nm.extract (0 : Nat)
 (if (20 : Int) < (↑nm.size : Int) then (20 : Int) else (↑nm.size : Int)).toNat)
 (ByteArray.mk #[(97 : UInt8)]))]]).sub
 ((0 : Nat)) ((0 : Nat) + (1 : Nat))]]))
 (cpU
 (D.l
 [[D.s
 (pk i (4 : Nat)
 (nm.extract (0 : Nat) (if (20 : Int) < (↑nm.size : Int) then (20 : Int) else (↑nm.size : Int)).toNat)
 (ByteArray.mk #[(99 : UInt8)])),
 (D.l
 [[D.i (0 : Int),
 D.s
 (pk i (5 : Nat)
 (nm.extract (0 : Nat)
 (if (20 : Int) < (↑nm.size : Int) then (20 : Int) else (↑nm.size : Int)).toNat)
 (ByteArray.mk #[(97 : UInt8)])),
 D.i (0 : Int)]]).sub
 ((0 : Nat)) ((0 : Nat) + (1 : Nat))]]))
 (cpP
 (D.l
 [[D.s
 (pk i (6 : Nat)
 (nm.extract (0 : Nat) (if (20 : Int) < (↑nm.size : Int) then (20 : Int) else (↑nm.size : Int)).toNat)
 (ByteArray.mk #[(112 : UInt8)])),
 (D.l
 [[D.s
 (pk i (7 : Nat)
 (nm.extract (0 : Nat)
 (if (20 : Int) < (↑nm.size : Int) then (20 : Int) else (↑nm.size : Int)).toNat)
 (ByteArray.mk #[(120 : UInt8)]))]]).sub
 ((0 : Nat)) ((0 : Nat) + (1 : Nat)),
 D.l
 [[D.i (7 : Int),
 D.s
 (pk i (8 : Nat)
 (nm.extract (0 : Nat) (if (20 : Int) < (↑nm.size : Int) then (20 : Int) else (↑nm.size : Int)).toNat)
 (ByteArray.mk #[(120 : UInt8)])),
 D.s ByteArray.empty, D.i (0 : Int), D.i (0 : Int), D.s ByteArray.empty, D.l [], D.i (0 : Int),
 D.i (0 : Int), D.i (0 : Int), D.s ByteArray.empty, D.l [], D.i (0 : Int), D.i (0 : Int),
 D.s ByteArray.empty, D.l [], D.l [], D.l [], D.l []],
 [D.i (4 : Int), D.s (ByteArray.mk #[(99 : UInt8)]), D.s (ByteArray.mk #[(97 : UInt8)]), D.i (2 : Int),
 D.i (0 : Int),
 D.s
 (pk i (9 : Nat)
 (nm.extract (0 : Nat) (if (20 : Int) < (↑nm.size : Int) then (20 : Int) else (↑nm.size : Int)).toNat)
 (ByteArray.mk #[(120 : UInt8)])),
 D.l [], D.i (0 : Int), D.i (0 : Int), D.i (0 : Int), D.s ByteArray.empty, D.l [], D.i (0 : Int),
 D.i (0 : Int), D.s ByteArray.empty, D.l [], D.l [], D.l [], D.l []],
 [D.i (5 : Int), D.s (ByteArray.mk #[(99 : UInt8)]), D.s ByteArray.empty, D.i (0 : Int), D.i (0 : Int),
 D.s ByteArray.empty, D.l [], D.i (0 : Int), D.i (0 : Int), D.i (0 : Int), D.s ByteArray.empty, D.l [],
 D.i (0 : Int), D.i (0 : Int), D.s ByteArray.empty, D.l [], D.l [], D.l [],
 D.l
 [[D.s
 (pk i (10 : Nat)
 (nm.extract (0 : Nat)
 (if (20 : Int) < (↑nm.size : Int) then (20 : Int) else (↑nm.size : Int)).toNat)
 (ByteArray.mk #[(97 : UInt8)])),
 D.s
 (pk i (11 : Nat)
 (nm.extract (0 : Nat)
 (if (20 : Int) < (↑nm.size : Int) then (20 : Int) else (↑nm.size : Int)).toNat)
 (ByteArray.mk #[(120 : UInt8)])),
 D.l []]]]]]])) ==
 (0 : Int)) ==
 ((lexR (nm.extract (0 : Nat) (if (20 : Int) < (↑nm.size : Int) then (20 : Int) else (↑nm.size : Int)).toNat)).snd.snd ==
 (0 : Int) &&
 (↑(tokD
 (lexR
 (nm.extract (0 : Nat)
 (if (20 : Int) < (↑nm.size : Int) then (20 : Int) else (↑nm.size : Int)).toNat)).fst).len :
 Int) ==
 (1 : Int) &&
 ((tokD
 (lexR
 (nm.extract (0 : Nat)
 (if (20 : Int) < (↑nm.size : Int) then (20 : Int) else (↑nm.size : Int)).toNat)).fst).el
 ((0 : Nat)) ((0 : Nat) + (0 : Nat))).toI ==
 (1 : Int) &&
 ((tokD (lexR (nm.extract (0 : Nat) (if (20 : Int) < (↑nm.size : Int) then (20 : Int) else (↑nm.size : Int)).toNat)).fst).el
 ((0 : Nat)) ((0 : Nat) + (1 : Nat))).toS.toList ==
 (nm.extract (0 : Nat) (if (20 : Int) < (↑nm.size : Int) then (20 : Int) else (↑nm.size : Int)).toNat).toList) &&
 (wdE
 (cpC
 (D.l
 [[D.s
 (pk i (0 : Nat)
 (nm.extract (0 : Nat) (if (20 : Int) < (↑nm.size : Int) then (20 : Int) else (↑nm.size : Int)).toNat)
 (ByteArray.mk #[(99 : UInt8)])),
 D.i (0 : Int), D.i (1 : Int),
 D.s
 (pk i (1 : Nat)
 (nm.extract (0 : Nat) (if (20 : Int) < (↑nm.size : Int) then (20 : Int) else (↑nm.size : Int)).toNat)
 (ByteArray.mk #[(112 : UInt8)])),
 D.s
 (pk i (2 : Nat)
 (nm.extract (0 : Nat) (if (20 : Int) < (↑nm.size : Int) then (20 : Int) else (↑nm.size : Int)).toNat)
 (ByteArray.mk #[(113 : UInt8)])),
 (D.l
 [[D.s
 (pk i (3 : Nat)
 (nm.extract (0 : Nat)
 (if (20 : Int) < (↑nm.size : Int) then (20 : Int) else (↑nm.size : Int)).toNat)
 (ByteArray.mk #[(97 : UInt8)]))]]).sub
 ((0 : Nat)) ((0 : Nat) + (1 : Nat))]]))
 (cpU
 (D.l
 [[D.s
 (pk i (4 : Nat)
 (nm.extract (0 : Nat) (if (20 : Int) < (↑nm.size : Int) then (20 : Int) else (↑nm.size : Int)).toNat)
 (ByteArray.mk #[(99 : UInt8)])),
 (D.l
 [[D.i (0 : Int),
 D.s
 (pk i (5 : Nat)
 (nm.extract (0 : Nat)
 (if (20 : Int) < (↑nm.size : Int) then (20 : Int) else (↑nm.size : Int)).toNat)
 (ByteArray.mk #[(97 : UInt8)])),
 D.i (0 : Int)]]).sub
 ((0 : Nat)) ((0 : Nat) + (1 : Nat))]]))
 (cpP
 (D.l
 [[D.s
 (pk i (6 : Nat)
 (nm.extract (0 : Nat) (if (20 : Int) < (↑nm.size : Int) then (20 : Int) else (↑nm.size : Int)).toNat)
 (ByteArray.mk #[(112 : UInt8)])),
 (D.l
 [[D.s
 (pk i (7 : Nat)
 (nm.extract (0 : Nat)
 (if (20 : Int) < (↑nm.size : Int) then (20 : Int) else (↑nm.size : Int)).toNat)
 (ByteArray.mk #[(120 : UInt8)]))]]).sub
 ((0 : Nat)) ((0 : Nat) + (1 : Nat)),
 D.l
 [[D.i (7 : Int),
 D.s
 (pk i (8 : Nat)
 (nm.extract (0 : Nat) (if (20 : Int) < (↑nm.size : Int) then (20 : Int) else (↑nm.size : Int)).toNat)
 (ByteArray.mk #[(120 : UInt8)])),
 D.s ByteArray.empty, D.i (0 : Int), D.i (0 : Int), D.s ByteArray.empty, D.l [], D.i (0 : Int),
 D.i (0 : Int), D.i (0 : Int), D.s ByteArray.empty, D.l [], D.i (0 : Int), D.i (0 : Int),
 D.s ByteArray.empty, D.l [], D.l [], D.l [], D.l []],
 [D.i (4 : Int), D.s (ByteArray.mk #[(99 : UInt8)]), D.s (ByteArray.mk #[(97 : UInt8)]), D.i (2 : Int),
 D.i (0 : Int),
 D.s
 (pk i (9 : Nat)
 (nm.extract (0 : Nat) (if (20 : Int) < (↑nm.size : Int) then (20 : Int) else (↑nm.size : Int)).toNat)
 (ByteArray.mk #[(120 : UInt8)])),
 D.l [], D.i (0 : Int), D.i (0 : Int), D.i (0 : Int), D.s ByteArray.empty, D.l [], D.i (0 : Int),
 D.i (0 : Int), D.s ByteArray.empty, D.l [], D.l [], D.l [], D.l []],
 [D.i (5 : Int), D.s (ByteArray.mk #[(99 : UInt8)]), D.s ByteArray.empty, D.i (0 : Int), D.i (0 : Int),
 D.s ByteArray.empty, D.l [], D.i (0 : Int), D.i (0 : Int), D.i (0 : Int), D.s ByteArray.empty, D.l [],
 D.i (0 : Int), D.i (0 : Int), D.s ByteArray.empty, D.l [], D.l [], D.l [],
 D.l
 [[D.s
 (pk i (10 : Nat)
 (nm.extract (0 : Nat)
 (if (20 : Int) < (↑nm.size : Int) then (20 : Int) else (↑nm.size : Int)).toNat)
 (ByteArray.mk #[(97 : UInt8)])),
 D.s
 (pk i (11 : Nat)
 (nm.extract (0 : Nat)
 (if (20 : Int) < (↑nm.size : Int) then (20 : Int) else (↑nm.size : Int)).toNat)
 (ByteArray.mk #[(120 : UInt8)])),
 D.l []]]]]]])) ==
 (0 : Int) ||
 wdE
 (cpC
 (D.l
 [[D.s
 (pk i (0 : Nat)
 (nm.extract (0 : Nat) (if (20 : Int) < (↑nm.size : Int) then (20 : Int) else (↑nm.size : Int)).toNat)
 (ByteArray.mk #[(99 : UInt8)])),
 D.i (0 : Int), D.i (1 : Int),
 D.s
 (pk i (1 : Nat)
 (nm.extract (0 : Nat) (if (20 : Int) < (↑nm.size : Int) then (20 : Int) else (↑nm.size : Int)).toNat)
 (ByteArray.mk #[(112 : UInt8)])),
 D.s
 (pk i (2 : Nat)
 (nm.extract (0 : Nat) (if (20 : Int) < (↑nm.size : Int) then (20 : Int) else (↑nm.size : Int)).toNat)
 (ByteArray.mk #[(113 : UInt8)])),
 (D.l
 [[D.s
 (pk i (3 : Nat)
 (nm.extract (0 : Nat)
 (if (20 : Int) < (↑nm.size : Int) then (20 : Int) else (↑nm.size : Int)).toNat)
 (ByteArray.mk #[(97 : UInt8)]))]]).sub
 ((0 : Nat)) ((0 : Nat) + (1 : Nat))]]))
 (cpU
 (D.l
 [[D.s
 (pk i (4 : Nat)
 (nm.extract (0 : Nat) (if (20 : Int) < (↑nm.size : Int) then (20 : Int) else (↑nm.size : Int)).toNat)
 (ByteArray.mk #[(99 : UInt8)])),
 (D.l
 [[D.i (0 : Int),
 D.s
 (pk i (5 : Nat)
 (nm.extract (0 : Nat)
 (if (20 : Int) < (↑nm.size : Int) then (20 : Int) else (↑nm.size : Int)).toNat)
 (ByteArray.mk #[(97 : UInt8)])),
 D.i (0 : Int)]]).sub
 ((0 : Nat)) ((0 : Nat) + (1 : Nat))]]))
 (cpP
 (D.l
 [[D.s
 (pk i (6 : Nat)
 (nm.extract (0 : Nat) (if (20 : Int) < (↑nm.size : Int) then (20 : Int) else (↑nm.size : Int)).toNat)
 (ByteArray.mk #[(112 : UInt8)])),
 (D.l
 [[D.s
 (pk i (7 : Nat)
 (nm.extract (0 : Nat)
 (if (20 : Int) < (↑nm.size : Int) then (20 : Int) else (↑nm.size : Int)).toNat)
 (ByteArray.mk #[(120 : UInt8)]))]]).sub
 ((0 : Nat)) ((0 : Nat) + (1 : Nat)),
 D.l
 [[D.i (7 : Int),
 D.s
 (pk i (8 : Nat)
 (nm.extract (0 : Nat) (if (20 : Int) < (↑nm.size : Int) then (20 : Int) else (↑nm.size : Int)).toNat)
 (ByteArray.mk #[(120 : UInt8)])),
 D.s ByteArray.empty, D.i (0 : Int), D.i (0 : Int), D.s ByteArray.empty, D.l [], D.i (0 : Int),
 D.i (0 : Int), D.i (0 : Int), D.s ByteArray.empty, D.l [], D.i (0 : Int), D.i (0 : Int),
 D.s ByteArray.empty, D.l [], D.l [], D.l [], D.l []],
 [D.i (4 : Int), D.s (ByteArray.mk #[(99 : UInt8)]), D.s (ByteArray.mk #[(97 : UInt8)]), D.i (2 : Int),
 D.i (0 : Int),
 D.s
 (pk i (9 : Nat)
 (nm.extract (0 : Nat) (if (20 : Int) < (↑nm.size : Int) then (20 : Int) else (↑nm.size : Int)).toNat)
 (ByteArray.mk #[(120 : UInt8)])),
 D.l [], D.i (0 : Int), D.i (0 : Int), D.i (0 : Int), D.s ByteArray.empty, D.l [], D.i (0 : Int),
 D.i (0 : Int), D.s ByteArray.empty, D.l [], D.l [], D.l [], D.l []],
 [D.i (5 : Int), D.s (ByteArray.mk #[(99 : UInt8)]), D.s ByteArray.empty, D.i (0 : Int), D.i (0 : Int),
 D.s ByteArray.empty, D.l [], D.i (0 : Int), D.i (0 : Int), D.i (0 : Int), D.s ByteArray.empty, D.l [],
 D.i (0 : Int), D.i (0 : Int), D.s ByteArray.empty, D.l [], D.l [], D.l [],
 D.l
 [[D.s
 (pk i (10 : Nat)
 (nm.extract (0 : Nat)
 (if (20 : Int) < (↑nm.size : Int) then (20 : Int) else (↑nm.size : Int)).toNat)
 (ByteArray.mk #[(97 : UInt8)])),
 D.s
 (pk i (11 : Nat)
 (nm.extract (0 : Nat)
 (if (20 : Int) < (↑nm.size : Int) then (20 : Int) else (↑nm.size : Int)).toNat)
 (ByteArray.mk #[(120 : UInt8)])),
 D.l []]]]]]])) ==
 (5 : Int))) =
 true) (by kernel_rfl) ?_
    have hq := m12_lt a
    rw [m12_eq a]
    generalize hN : nm.extract 0 (if 20 < (nm.size : Int) then 20 else (nm.size : Int)).toNat = N
    have hs : N.size ≤ 20 := by
      rw [← hN, ByteArray.size_extract]
      split <;> omega
    refine ⟨⟨by split <;> omega, by split <;> omega⟩, ?_, ?_⟩
    · have key : ∀ q : Nat, ((m12 a : Int) == (q : Int)) = true → m12 a = q := fun q h => by have := eq_of_beq h; omega
      have no : ∀ q : Nat, ((m12 a : Int) == (q : Int)) = false → m12 a ≠ q := fun q h e => by rw [e] at h; simp at h
      refine ⟨fun h => ⟨m12 a, ⟨rfl, trivial⟩, by rw [key 0 h]; (repeat' apply And.intro) <;> rfl⟩, fun n0 => ?_⟩
      refine ⟨fun h => ⟨m12 a, ⟨rfl, trivial⟩, by rw [key 1 h]; (repeat' apply And.intro) <;> rfl⟩, fun n1 => ?_⟩
      refine ⟨fun h => ⟨m12 a, ⟨rfl, trivial⟩, by rw [key 2 h]; (repeat' apply And.intro) <;> rfl⟩, fun n2 => ?_⟩
      refine ⟨fun h => ⟨(show 0 < 1 by decide), m12 a, ⟨rfl, trivial⟩, by rw [key 3 h]; (repeat' apply And.intro) <;> rfl⟩, fun n3 => ?_⟩
      refine ⟨fun h => ⟨m12 a, ⟨rfl, trivial⟩, by rw [key 4 h]; (repeat' apply And.intro) <;> rfl⟩, fun n4 => ?_⟩
      refine ⟨fun h => ⟨(show 0 < 1 by decide), m12 a, ⟨rfl, trivial⟩, by rw [key 5 h]; (repeat' apply And.intro) <;> rfl⟩, fun n5 => ?_⟩
      refine ⟨fun h => ⟨m12 a, ⟨rfl, trivial⟩, by rw [key 6 h]; (repeat' apply And.intro) <;> rfl⟩, fun n6 => ?_⟩
      refine ⟨fun h => ⟨(show 0 < 1 by decide), m12 a, ⟨rfl, trivial⟩, by rw [key 7 h]; (repeat' apply And.intro) <;> rfl⟩, fun n7 => ?_⟩
      refine ⟨fun h => ⟨m12 a, ⟨rfl, trivial⟩, by rw [key 8 h]; (repeat' apply And.intro) <;> rfl⟩, fun n8 => ?_⟩
      refine ⟨fun h => ⟨m12 a, ⟨rfl, trivial⟩, by rw [key 9 h]; (repeat' apply And.intro) <;> rfl⟩, fun n9 => ?_⟩
      refine ⟨fun h => ⟨m12 a, ⟨rfl, trivial⟩, by rw [key 10 h]; (repeat' apply And.intro) <;> rfl⟩, fun n10 => ?_⟩
      refine ⟨fun h => ⟨m12 a, ⟨rfl, trivial⟩, by rw [key 11 h]; (repeat' apply And.intro) <;> rfl⟩, fun n11 => ?_⟩
      exfalso
      have z0 := no 0 n0
      have z1 := no 1 n1
      have z2 := no 2 n2
      have z3 := no 3 n3
      have z4 := no 4 n4
      have z5 := no 5 n5
      have z6 := no 6 n6
      have z7 := no 7 n7
      have z8 := no 8 n8
      have z9 := no 9 n9
      have z10 := no 10 n10
      have z11 := no 11 n11
      omega
    · rintro i ⟨rfl, _⟩
      have hz := nmF_sz (q := m12 a) hs
      have sS := SyS_N (nmF (m12 a) N)
      have sK := SyOK_N (nmF (m12 a) N)
      have sF := SyF_N hz
      have w := wd_F hq N
      have wz : ∀ i, i < (wdA (nC (nmF (m12 a) N)) (nU (nmF (m12 a) N)) (nP (nmF (m12 a) N))).len → ((wdA (nC (nmF (m12 a) N)) (nU (nmF (m12 a) N)) (nP (nmF (m12 a) N))).el i 0).toS.size ≤ 1000000000 := fun i hi => wdA_sz (fun _ _ => sF) i hi
      have eP := cpP_N (nmF (m12 a) N)
      have rt := rt_nm N
      refine ⟨by omega, fun h => ?_, fun h => ?_, Nat.le_refl _, Nat.le_refl _, Nat.le_refl _, sS, ?_⟩
      · have h1 := h.1
        simp only [Bool.and_eq_true] at h1
        have := eq_of_beq h1.2
        omega
      · have h1 := h.1
        simp only [Bool.and_eq_true] at h1
        have := eq_of_beq h1.1.2
        omega
      · show SyOK (nC (nmF (m12 a) N)) (nU (nmF (m12 a) N)) (cpP (nP (nmF (m12 a) N))) ∧ (syB (nC (nmF (m12 a) N)) (nU (nmF (m12 a) N)) (cpP (nP (nmF (m12 a) N))) = true → syN (cpP (nP (nmF (m12 a) N))) = true → SyF (nC (nmF (m12 a) N)) (nU (nmF (m12 a) N)) (cpP (nP (nmF (m12 a) N)))) ∧
          (∀ i, i < (wdA (nC (nmF (m12 a) N)) (nU (nmF (m12 a) N)) (cpP (nP (nmF (m12 a) N)))).len → ((wdA (nC (nmF (m12 a) N)) (nU (nmF (m12 a) N)) (cpP (nP (nmF (m12 a) N)))).el i 0).toS.size ≤ 1000000000) ∧
          ((wdE (nC (nmF (m12 a) N)) (nU (nmF (m12 a) N)) (cpP (nP (nmF (m12 a) N))) == 0) == rtB N && (wdE (nC (nmF (m12 a) N)) (nU (nmF (m12 a) N)) (cpP (nP (nmF (m12 a) N))) == 0 || wdE (nC (nmF (m12 a) N)) (nU (nmF (m12 a) N)) (cpP (nP (nmF (m12 a) N))) == 5)) = true
        rw [eP]
        exact ⟨sK, fun _ _ => sF, wz, b4 (y := 0) w rt⟩
  · trivial
end Go.Proofs.YtomodncooiddaaaDoor.Sx.Z
