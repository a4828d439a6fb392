/-
  The types at hand.; The zone's small calls: what they tell.; Itvs joined, widened: the program's, and the reference's.; Contracts of functions that call themselves.; Contracts whose answers hold new blocks of the caller's own: shown once, with the numbers 0, 1, .. for these blocks.
-/
import Derived.Test.YtdagadcflignfaaProg
import Derived.Test.YtdagadcflignfaaA14
import Derived.IntWalk
import Derived.Test.YtdagadcflignfaaA13
namespace Go.Proofs.Ytdagadcflignfaa.Sx.Z
def tt : TT := [(2, ⟨.int .i64, 1, none, [.c (.int .i64 (.lit 0))], none, none, 8⟩),
  (3, ⟨.int .i64, 1, none, [.c (.int .i64 (.lit 0))], none, some ([.int .i64]), 8⟩),
  (4, ⟨.bool, 1, none, [.c (.bool (.lit false))], none, none, 1⟩),
  (5, ⟨.int .u8, 1, none, [.c (.int .u8 (.lit 0))], none, some ([.int .u8]), 1⟩),
  (9, ⟨.string, 1, none, [.c (.raw (.string ByteArray.empty))], none, none, 16⟩),
  (21, ⟨.int .i32, 1, none, [.c (.int .i32 (.lit 0))], none, some ([.int .i32]), 4⟩),
  (22, ⟨.int .u64, 1, none, [.c (.int .u64 (.lit 0))], none, none, 8⟩),
  (23, ⟨.slice 25, 1, none, [.c .nils], none, none, 24⟩),
  (25, ⟨.struct [(3, 0), (3, 1), (3, 2), (23, 3)], 4, some [.c, .c, .c, .c], [.c (.int .i64 (.lit 0)), .c (.int .i64 (.lit 0)), .c (.int .i64 (.lit 0)), .c .nils], none, some ([.int .i64, .int .i64, .int .i64, .slice 25]), 48⟩),
  (26, ⟨.slice 32, 1, none, [.c .nils], none, none, 24⟩),
  (29, ⟨.struct [(3, 0), (25, 1), (25, 5)], 9, some [.c, .c, .c, .c, .c, .c, .c, .c, .c], [.c (.int .i64 (.lit 0)), .c (.int .i64 (.lit 0)), .c (.int .i64 (.lit 0)), .c (.int .i64 (.lit 0)), .c .nils, .c (.int .i64 (.lit 0)), .c (.int .i64 (.lit 0)), .c (.int .i64 (.lit 0)), .c .nils], none, none, 104⟩),
  (30, ⟨.slice 206, 1, none, [.c .nils], none, none, 24⟩),
  (33, ⟨.slice 80, 1, none, [.c .nils], none, none, 24⟩),
  (34, ⟨.slice 49, 1, none, [.c .nils], none, none, 24⟩),
  (35, ⟨.slice 3, 1, none, [.c .nils], none, some ([.slice 3]), 24⟩),
  (43, ⟨.slice 42, 1, none, [.c .nils], none, none, 24⟩),
  (47, ⟨.slice 53, 1, none, [.c .nils], none, none, 24⟩),
  (54, ⟨.slice 35, 1, none, [.c .nils], none, none, 24⟩),
  (55, ⟨.slice 89, 1, none, [.c .nils], none, none, 24⟩),
  (62, ⟨.slice 64, 1, none, [.c .nils], none, none, 24⟩),
  (64, ⟨.struct [(3, 0), (3, 1), (3, 2), (62, 3)], 4, some [.c, .c, .c, .c], [.c (.int .i64 (.lit 0)), .c (.int .i64 (.lit 0)), .c (.int .i64 (.lit 0)), .c .nils], none, some ([.int .i64, .int .i64, .int .i64, .slice 64]), 48⟩),
  (65, ⟨.array 3 21, 3, some [.ints .i32 3], [.ints .i32 (.lit 3) (fun _ => 0)], some [(.i .i32, 3)], none, 12⟩),
  (75, ⟨.struct [(3, 0), (64, 1), (64, 5)], 9, some [.c, .c, .c, .c, .c, .c, .c, .c, .c], [.c (.int .i64 (.lit 0)), .c (.int .i64 (.lit 0)), .c (.int .i64 (.lit 0)), .c (.int .i64 (.lit 0)), .c .nils, .c (.int .i64 (.lit 0)), .c (.int .i64 (.lit 0)), .c (.int .i64 (.lit 0)), .c .nils], none, none, 104⟩),
  (78, ⟨.slice 21, 1, none, [.c .nils], none, none, 24⟩),
  (80, ⟨.struct [(3, 0), (3, 1), (3, 2), (3, 3), (3, 4), (54, 5)], 6, some [.c, .c, .c, .c, .c, .c], [.c (.int .i64 (.lit 0)), .c (.int .i64 (.lit 0)), .c (.int .i64 (.lit 0)), .c (.int .i64 (.lit 0)), .c (.int .i64 (.lit 0)), .c .nils], none, some ([.int .i64, .int .i64, .int .i64, .int .i64, .int .i64, .slice 35]), 64⟩),
  (82, ⟨.struct [(3, 0), (3, 1)], 2, some [.c, .c], [.c (.int .i64 (.lit 0)), .c (.int .i64 (.lit 0))], some [(.i .i64, 1), (.i .i64, 1)], some ([.int .i64, .int .i64]), 16⟩),
  (83, ⟨.slice 82, 1, none, [.c .nils], none, none, 24⟩),
  (85, ⟨.struct [(82, 0), (83, 2)], 3, some [.c, .c, .c], [.c (.int .i64 (.lit 0)), .c (.int .i64 (.lit 0)), .c .nils], none, none, 40⟩),
  (87, ⟨.int .u8, 1, none, [.c (.int .u8 (.lit 0))], none, none, 1⟩),
  (89, ⟨.slice 95, 1, none, [.c .nils], none, some ([.slice 95]), 24⟩),
  (95, ⟨.struct [(3, 0), (3, 1)], 2, some [.c, .c], [.c (.int .i64 (.lit 0)), .c (.int .i64 (.lit 0))], some [(.i .i64, 1), (.i .i64, 1)], some ([.int .i64, .int .i64]), 16⟩),
  (116, ⟨.slice 163, 1, none, [.c .nils], none, none, 24⟩),
  (122, ⟨.array 2 3, 2, some [.ints .i64 2], [.ints .i64 (.lit 2) (fun _ => 0)], some [(.i .i64, 2)], none, 16⟩),
  (123, ⟨.slice 57, 1, none, [.c .nils], none, none, 24⟩),
  (130, ⟨.slice 129, 1, none, [.c .nils], none, none, 24⟩),
  (146, ⟨.slice 150, 1, none, [.c .nils], none, none, 24⟩),
  (163, ⟨.slice 164, 1, none, [.c .nils], none, some ([.slice 164]), 24⟩),
  (164, ⟨.struct [(3, 0), (3, 1)], 2, some [.c, .c], [.c (.int .i64 (.lit 0)), .c (.int .i64 (.lit 0))], some [(.i .i64, 1), (.i .i64, 1)], some ([.int .i64, .int .i64]), 16⟩),
  (184, ⟨.slice 47, 1, none, [.c .nils], none, none, 24⟩),
  (194, ⟨.int .u32, 1, none, [.c (.int .u32 (.lit 0))], none, none, 4⟩),
  (225, ⟨.slice 5, 1, none, [.c .nils], none, none, 24⟩)]
theorem tt_ok : TTOK Try.prog tt := ttAll_ok ⟨by kernel_rfl, trivial, by kernel_rfl, ⟨by kernel_rfl, by kernel_rfl, by kernel_rfl⟩, by kernel_rfl, trivial, by kernel_rfl, ⟨by kernel_rfl, by kernel_rfl, by kernel_rfl⟩, by kernel_rfl, trivial, by kernel_rfl, ⟨by kernel_rfl, by kernel_rfl, by kernel_rfl⟩, by kernel_rfl, trivial, by kernel_rfl, trivial, by kernel_rfl, ⟨by kernel_rfl, by kernel_rfl, by kernel_rfl⟩, by kernel_rfl, trivial, by kernel_rfl, trivial, by kernel_rfl, trivial, by kernel_rfl, trivial, by kernel_rfl, trivial, by kernel_rfl, ⟨by kernel_rfl, by kernel_rfl, by kernel_rfl⟩, by kernel_rfl, trivial, by kernel_rfl, trivial, by kernel_rfl, trivial, by kernel_rfl, trivial, by kernel_rfl, trivial, by kernel_rfl, ⟨by kernel_rfl, by kernel_rfl, by kernel_rfl⟩, by kernel_rfl, trivial, by kernel_rfl, trivial, by kernel_rfl, trivial, by kernel_rfl, ⟨by kernel_rfl, by kernel_rfl, by kernel_rfl⟩, by kernel_rfl, ⟨by kernel_rfl, by kernel_rfl, by kernel_rfl⟩, by kernel_rfl, trivial, by kernel_rfl, trivial, by kernel_rfl, trivial, by kernel_rfl, ⟨by kernel_rfl, by kernel_rfl, by kernel_rfl⟩, by kernel_rfl, ⟨by kernel_rfl, by kernel_rfl, by kernel_rfl⟩, by kernel_rfl, trivial, by kernel_rfl, trivial, by kernel_rfl, trivial, by kernel_rfl, trivial, by kernel_rfl, trivial, by kernel_rfl, ⟨by kernel_rfl, by kernel_rfl, by kernel_rfl⟩, by kernel_rfl, ⟨by kernel_rfl, by kernel_rfl, by kernel_rfl⟩, by kernel_rfl, trivial, by kernel_rfl, trivial, by kernel_rfl, trivial, trivial⟩
theorem kall : kAll tt = true := by kernel_rfl
theorem mixed : Try.prog.follows .mixedOrders = true := by kernel_rfl
end Go.Proofs.Ytdagadcflignfaa.Sx.Z
namespace Go.Proofs.Ytdagadcflignfaa.Sx.Z
open Go.RowKit
def zs (n : SI) (b : SB) (D : Nat → Int) : List Seg := [.c (.int .i64 n), .c (.bool b), .ints .i64 (.lit 49) D]
def i0 : Seg := .c (.int .i64 (.lit 0))
def zA : AP := .agg [.c (.int .i64), .c .bool, .ints .i64 49]
def iA : AP := .sc (.int .i64)
def itvA : AP := .agg [.c (.int .i64), .c (.int .i64)]
theorem wr (x : Int) (h : -9223372036854775808 ≤ x ∧ x ≤ 9223372036854775807) : IntKind.i64.wrap x = x := IntWalk.i64_in x h
/-- From one number to another one, as far as a variable may be. -/
def ofLo (a b : Int) : Int := if min b 2147483647 < max a (-2147483648) then 1 else max a (-2147483648)
def ofHi (a b : Int) : Int := if min b 2147483647 < max a (-2147483648) then 0 else min b 2147483647
/-- How many rows. -/
def rowsP (n : Int) : Int := 1 + min (max n 0) 6
theorem rowsP_le (n : Int) : 1 ≤ rowsP n ∧ rowsP n ≤ 7 := by unfold rowsP; omega
def isVarP (n x : Int) : Bool := decide (0 ≤ x) && decide (x < rowsP n - 1)
theorem isVarP_lt {n x : Int} (h : isVarP n x = true) : 0 ≤ x ∧ x < rowsP n - 1 ∧ x ≤ 5 := by
  have := rowsP_le n
  simp only [isVarP, Bool.and_eq_true, decide_eq_true_eq] at h
  omega
def Sm (f : Nat → Int) : Prop := ∀ o, o < 49 → -1099511627776 ≤ f o ∧ f o ≤ 1099511627776
def itvLo (n : Int) (c : Bool) (f : Nat → Int) (x : Int) : Int := if (c || !isVarP n x) = true then 1 else ofLo (0 - f (x + 1).toNat) (f ((x + 1).toNat * 7))
def itvHi (n : Int) (c : Bool) (f : Nat → Int) (x : Int) : Int := if (c || !isVarP n x) = true then 0 else ofHi (0 - f (x + 1).toNat) (f ((x + 1).toNat * 7))
def isEndP (n x : Int) : Bool := (x == -1) || isVarP n x
def emptyS : FSpec := fun ds _ => match ds with
  | [.i a, .i b] => some { val := .one (.sc (.bool (.sym (decide (b < a))))), vc := [] }
  | _ => none
def emptyC : Con := con [itvA] emptyS
theorem empty_ok : ConOK Try.prog 51 emptyC := by
  refine fn_ob tt_ok mixed Try.func51 rfl (fun _ _ => by kernel_rfl) (A := fun ds => ⟨fun _ => Cons.of [], fun _ => none, fun _ => none⟩) (fun _ _ => cons_nil) (by kernel_rfl) ?_
  intro ds fr
  unfold emptyS
  split
  · rename_i a b
    refine kmp (q := decide (a > b) = decide (b < a)) (by kernel_rfl) ?_
    rfl
  · trivial
def inoneS : FSpec := fun ds _ => match ds with
  | [] => some { val := .one (.agg [.c (.int .i64 (.sym (1))), .c (.int .i64 (.sym (0)))]), vc := [] }
  | _ => none
def inoneC : Con := con [] inoneS
theorem inone_ok : ConOK Try.prog 48 inoneC := by
  refine fn_ob tt_ok mixed Try.func48 rfl (fun _ _ => by kernel_rfl) (A := fun ds => ⟨fun _ => Cons.of [], fun _ => none, fun _ => none⟩) (fun _ _ => cons_nil) (by kernel_rfl) ?_
  intro ds fr
  unfold inoneS
  split
  · skip
    refine kmp (q := (1 : Int) = (1 : Int) ∧ (0 : Int) = (0 : Int)) (by kernel_rfl) ?_
    exact ⟨rfl, rfl⟩
  · trivial
def iallS : FSpec := fun ds _ => match ds with
  | [] => some { val := .one (.agg [.c (.int .i64 (.sym (-2147483648))), .c (.int .i64 (.sym (2147483647)))]), vc := [] }
  | _ => none
def iallC : Con := con [] iallS
def iofS : FSpec := fun ds _ => match ds with
  | [.i a, .i b] => some { val := .one (.agg [.c (.int .i64 (.sym (ofLo a b))), .c (.int .i64 (.sym (ofHi a b)))]), vc := [] }
  | _ => none
def iofC : Con := con [iA, iA] iofS
theorem iof_ok : ConOK Try.prog 53 iofC := by
  refine fn_ob tt_ok mixed Try.func53 rfl (fun _ _ => by kernel_rfl) (A := fun ds => ⟨fun _ => Cons.of [(51, emptyC), (48, inoneC)], fun _ => none, fun _ => none⟩) (fun _ _ => (cons_cons empty_ok (cons_cons inone_ok cons_nil))) (by kernel_rfl) ?_
  intro ds fr
  unfold iofS
  split
  · rename_i a b
    refine kmp (q := (decide ((if (2147483647 : Int) < b then (2147483647 : Int) else b) < if (-2147483648 : Int) > a then (-2147483648 : Int) else a) = true →
 (1 : Int) = ofLo a b ∧ (0 : Int) = ofHi a b) ∧
 (decide ((if (2147483647 : Int) < b then (2147483647 : Int) else b) < if (-2147483648 : Int) > a then (-2147483648 : Int) else a) = false →
 (if (-2147483648 : Int) > a then (-2147483648 : Int) else a) = ofLo a b ∧ (if (2147483647 : Int) < b then (2147483647 : Int) else b) = ofHi a b)) (by kernel_rfl) ?_
    unfold ofLo ofHi
    refine ⟨fun h => ?_, fun h => ?_⟩
    · have h := of_decide_eq_true h
      (repeat' split at h) <;> (repeat' split) <;> omega
    · have h := of_decide_eq_false h
      (repeat' split at h) <;> (repeat' split) <;> omega
  · trivial
def iconstS : FSpec := fun ds _ => match ds with
  | [.i a] => some { val := .one (.agg [.c (.int .i64 (.sym (ofLo a a))), .c (.int .i64 (.sym (ofHi a a)))]), vc := [] }
  | _ => none
def iconstC : Con := con [iA] iconstS
theorem iconst_ok : ConOK Try.prog 25 iconstC := by
  refine fn_ob tt_ok mixed Try.func25 rfl (fun _ _ => by kernel_rfl) (A := fun ds => ⟨fun _ => Cons.of [(53, iofC)], fun _ => none, fun _ => none⟩) (fun _ _ => (cons_cons iof_ok cons_nil)) (by kernel_rfl) ?_
  intro ds fr
  unfold iconstS
  split
  · rename_i a
    refine kmp (q := ofLo a a = ofLo a a ∧ ofHi a a = ofHi a a) (by kernel_rfl) ?_
    exact ⟨rfl, rfl⟩
  · trivial
def ihasS : FSpec := fun ds _ => match ds with
  | [.i a, .i b, .i n] => some { val := .one (.sc (.bool (.sym (decide (a ≤ n) && decide (n ≤ b))))), vc := [] }
  | _ => none
def ihasC : Con := con [itvA, iA] ihasS
theorem ihas_ok : ConOK Try.prog 59 ihasC := by
  refine fn_ob tt_ok mixed Try.func59 rfl (fun _ _ => by kernel_rfl) (A := fun ds => ⟨fun _ => Cons.of [], fun _ => none, fun _ => none⟩) (fun _ _ => cons_nil) (by kernel_rfl) ?_
  intro ds fr
  unfold ihasS
  split
  · rename_i a b n
    refine kmp (q := (decide (a ≤ n) && decide (n ≤ b)) = (decide (a ≤ n) && decide (n ≤ b))) (by kernel_rfl) ?_
    rfl
  · trivial
def rowsS : FSpec := fun ds _ => match ds with
  | [.i n, .b _, .f _] => some { val := .one (.sc (.int .i64 (.sym (rowsP n)))), vc := [] }
  | _ => none
def rowsC : Con := con [zA] rowsS
def isVarS : FSpec := fun ds _ => match ds with
  | [.i n, .b _, .f _, .i x] => some { val := .one (.sc (.bool (.sym (isVarP n x)))), vc := [] }
  | _ => none
def isVarC : Con := con [zA, iA] isVarS
def isEndS : FSpec := fun ds _ => match ds with
  | [.i n, .b _, .f _, .i x] => some { val := .one (.sc (.bool (.sym (isEndP n x)))), vc := [] }
  | _ => none
def isEndC : Con := con [zA, iA] isEndS
def zerosS : FSpec := fun ds _ => match ds with
  | [.i n] => some { val := .one (.agg [.c (.int .i64 (.sym (min (max n 0) 6))), .c (.bool (.sym (false))), .ints .i64 (.lit 49) (fun _ => 0)]), vc := [] }
  | _ => none
def zerosC : Con := con [iA] zerosS
def zitvS : FSpec := fun ds _ => match ds with
  | [.i n, .b c, .f f, .i x] => some { val := .one (.agg [.c (.int .i64 (.sym (itvLo n c f x))), .c (.int .i64 (.sym (itvHi n c f x)))]), vc := [Sm f] }
  | _ => none
def zitvC : Con := con [zA, iA] zitvS
def zfromS : FSpec := fun ds _ => match ds with
  | [.i n, .b c, .f f] => some { val := .one (.agg [.c (.int .i64 (.sym (n))), .c (.bool (.sym (c))), .ints .i64 (.lit 49) (f)]), vc := [] }
  | _ => none
def zfromC : Con := con [zA] zfromS
end Go.Proofs.Ytdagadcflignfaa.Sx.Z
namespace Go.Proofs.Ytdagadcflignfaa.Sx.Z
open Go.RowKit
def ofI (a b : Int) : Int × Int := (ofLo a b, ofHi a b)
def jnI (a b : Int × Int) : Int × Int := if a.2 < a.1 then ofI b.1 b.2 else if b.2 < b.1 then ofI a.1 a.2 else ofI (min a.1 b.1) (max a.2 b.2)
def wdI (a b : Int × Int) : Int × Int := if a.2 < a.1 ∨ b.2 < b.1 then jnI a b else (if b.1 < a.1 then -2147483648 else (jnI a b).1, if a.2 < b.2 then 2147483647 else (jnI a b).2)
def nrm (a : Int × Int) : Int × Int := if a.1 > a.2 then (1, 0) else a
def rjnI (a b : Int × Int) : Int × Int := if a.1 > a.2 then nrm b else if b.1 > b.2 then a else (min a.1 b.1, max a.2 b.2)
def rwdI (a b : Int × Int) : Int × Int := if a.1 > a.2 then nrm b else if b.1 > b.2 then a else (if b.1 < a.1 then -2147483648 else a.1, if a.2 < b.2 then 2147483647 else a.2)
def bendI (a : Int) : Int := IntKind.i64.wrap (IntKind.i32.wrap a)
theorem bendI_in (a : Int) : -2147483648 ≤ bendI a ∧ bendI a ≤ 2147483647 := by
  unfold bendI
  have : -2147483648 ≤ IntKind.i32.wrap a ∧ IntKind.i32.wrap a ≤ 2147483647 := by
    rw [IntKind.wrap_i32]; omega
  rw [wr _ (by omega)]
  exact this
/-- As every call tells it. -/
def Nm (p : Int × Int) : Prop := p = (1, 0) ∨ (-2147483648 ≤ p.1 ∧ p.1 ≤ p.2 ∧ p.2 ≤ 2147483647)
theorem ofI_cases (a b : Int) : (min b 2147483647 < max a (-2147483648) ∧ ofI a b = (1, 0)) ∨ (max a (-2147483648) ≤ min b 2147483647 ∧ ofI a b = (max a (-2147483648), min b 2147483647)) := by
  unfold ofI ofLo ofHi
  by_cases h : min b 2147483647 < max a (-2147483648)
  · left; simp [h]
  · right; simp [h]; omega
theorem nm_of (a b : Int) : Nm (ofI a b) := by
  rcases ofI_cases a b with ⟨_, e⟩ | ⟨h, e⟩
  · exact .inl e
  · right; rw [e]; dsimp only; omega
theorem nm_id {p : Int × Int} (h : Nm p) : ofI p.1 p.2 = p := by
  rcases h with rfl | h
  · rfl
  · obtain ⟨a, b⟩ := p
    dsimp only at h
    rcases ofI_cases a b with ⟨h1, e⟩ | ⟨h1, e⟩
    · exfalso; omega
    · rw [e]; ext <;> dsimp only <;> omega
theorem nm_jn {a b : Int × Int} : Nm (jnI a b) := by
  unfold jnI
  (repeat' split) <;> exact nm_of _ _
theorem jn_eq {a b : Int × Int} (ha : Nm a) (hb : Nm b) : rjnI a b = jnI a b := by
  unfold rjnI jnI nrm
  by_cases h1 : a.2 < a.1
  · rw [if_pos h1, if_pos h1]
    by_cases h2 : b.1 > b.2
    · rw [if_pos h2]
      rcases hb with rfl | hb
      · rfl
      · omega
    · rw [if_neg h2, nm_id hb]
  · rw [if_neg h1, if_neg h1]
    by_cases h2 : b.2 < b.1
    · rw [if_pos h2, if_pos h2, nm_id ha]
    · rw [if_neg h2, if_neg h2]
      have ha' : -2147483648 ≤ a.1 ∧ a.1 ≤ a.2 ∧ a.2 ≤ 2147483647 := by rcases ha with rfl | h; exact absurd (by decide) h1; exact h
      have hb' : -2147483648 ≤ b.1 ∧ b.1 ≤ b.2 ∧ b.2 ≤ 2147483647 := by rcases hb with rfl | h; exact absurd (by decide) h2; exact h
      exact (nm_id (p := (min a.1 b.1, max a.2 b.2)) (.inr (by dsimp only; omega))).symm
theorem wd_nm {a b : Int × Int} (ha : Nm a) (hb : Nm b) : rwdI a b = wdI a b ∧ Nm (wdI a b) := by
  have j := jn_eq ha hb
  have nj := @nm_jn a b
  obtain ⟨a1, a2⟩ := a
  obtain ⟨b1, b2⟩ := b
  unfold rwdI wdI
  unfold rjnI at j
  dsimp only at j ⊢
  by_cases h1 : a2 < a1
  · rw [if_pos h1] at j
    rw [if_pos h1, if_pos (.inl h1)]
    exact ⟨j, nj⟩
  · rw [if_neg h1] at j
    rw [if_neg h1]
    by_cases h2 : b2 < b1
    · rw [if_pos h2] at j
      rw [if_pos h2, if_pos (.inr h2)]
      exact ⟨j, nj⟩
    · rw [if_neg h2] at j
      rw [if_neg h2, if_neg (show ¬ (a2 < a1 ∨ b2 < b1) by omega), ← j]
      have ha' : -2147483648 ≤ a1 ∧ a1 ≤ a2 ∧ a2 ≤ 2147483647 := by
        rcases ha with h | h
        · obtain ⟨rfl, rfl⟩ := Prod.mk.inj h; exact absurd (by decide) h1
        · exact h
      have hb' : -2147483648 ≤ b1 ∧ b1 ≤ b2 ∧ b2 ≤ 2147483647 := by
        rcases hb with h | h
        · obtain ⟨rfl, rfl⟩ := Prod.mk.inj h; exact absurd (by decide) h2
        · exact h
      have e1 : (if b1 < a1 then (-2147483648 : Int) else a1) = if b1 < a1 then -2147483648 else min a1 b1 := by split <;> omega
      have e2 : (if a2 < b2 then (2147483647 : Int) else a2) = if a2 < b2 then 2147483647 else max a2 b2 := by split <;> omega
      refine ⟨by rw [e1, e2], .inr ?_⟩
      show -2147483648 ≤ (if b1 < a1 then (-2147483648 : Int) else min a1 b1) ∧ (if b1 < a1 then (-2147483648 : Int) else min a1 b1) ≤ (if a2 < b2 then (2147483647 : Int) else max a2 b2) ∧ (if a2 < b2 then (2147483647 : Int) else max a2 b2) ≤ 2147483647
      rw [← e1, ← e2]
      (repeat' split) <;> omega
theorem nrm_nm {a b : Int} (ha : -2147483648 ≤ a ∧ a ≤ 2147483647) (hb : -2147483648 ≤ b ∧ b ≤ 2147483647) : Nm (nrm (a, b)) := by
  unfold nrm
  split
  · exact .inl rfl
  · right; dsimp only at *; omega
theorem jnI_none {a : Int × Int} (h : Nm a) : jnI (1, 0) a = a := by unfold jnI; rw [if_pos (by decide)]; exact nm_id h
def norm8S : FSpec := fun ds _ => match ds with
  | [.i a, .i b] => some { val := .one (.agg [.c (.int .i64 (.sym ((nrm (a, b)).1))), .c (.int .i64 (.sym ((nrm (a, b)).2)))]), vc := [] }
  | _ => none
def norm8C : Con := con [itvA] norm8S
def bend8S : FSpec := fun ds _ => match ds with
  | [.i a, .i b] => some { val := .one (.agg [.c (.int .i64 (.sym (bendI a))), .c (.int .i64 (.sym (bendI b)))]), vc := [] }
  | _ => none
def bend8C : Con := con [itvA] bend8S
def rhas8S : FSpec := fun ds _ => match ds with
  | [.i a, .i b, .i n] => some { val := .one (.sc (.bool (.sym (decide (a ≤ n) && decide (n ≤ b))))), vc := [] }
  | _ => none
def rhas8C : Con := con [itvA, iA] rhas8S
def iwithinS : FSpec := fun ds _ => match ds with
  | [.i a, .i b, .i c, .i d] => some { val := .one (.sc (.bool (.sym (decide (b < a) || (decide (c ≤ a) && decide (b ≤ d)))))), vc := [] }
  | _ => none
def iwithinC : Con := con [itvA, itvA] iwithinS
def ijoinS : FSpec := fun ds _ => match ds with
  | [.i a, .i b, .i c, .i d] => some { val := .one (.agg [.c (.int .i64 (.sym ((jnI (a, b) (c, d)).1))), .c (.int .i64 (.sym ((jnI (a, b) (c, d)).2)))]), vc := [] }
  | _ => none
def ijoinC : Con := con [itvA, itvA] ijoinS
theorem ijoin_ok : ConOK Try.prog 55 ijoinC := by
  refine fn_ob tt_ok mixed Try.func55 rfl (fun _ _ => by kernel_rfl) (A := fun ds => ⟨fun _ => Cons.of [(51, emptyC), (53, iofC)], fun _ => none, fun _ => none⟩) (fun _ _ => (cons_cons empty_ok (cons_cons iof_ok cons_nil))) (by kernel_rfl) ?_
  intro ds fr
  unfold ijoinS
  split
  · rename_i a b c d
    refine kmp (q := (decide (b < a) = true → ofLo c d = (jnI (a, b) (c, d)).fst ∧ ofHi c d = (jnI (a, b) (c, d)).snd) ∧
 (decide (b < a) = false →
 (decide (d < c) = true → ofLo a b = (jnI (a, b) (c, d)).fst ∧ ofHi a b = (jnI (a, b) (c, d)).snd) ∧
 (decide (d < c) = false →
 ofLo (if c < a then c else a) (if d > b then d else b) = (jnI (a, b) (c, d)).fst ∧
 ofHi (if c < a then c else a) (if d > b then d else b) = (jnI (a, b) (c, d)).snd))) (by kernel_rfl) ?_
    (repeat' first | apply And.intro | intro _) <;> grind [nrm, jnI, wdI, rjnI, rwdI, ofI]
  · trivial
def iwidenS : FSpec := fun ds _ => match ds with
  | [.i a, .i b, .i c, .i d] => some { val := .one (.agg [.c (.int .i64 (.sym ((wdI (a, b) (c, d)).1))), .c (.int .i64 (.sym ((wdI (a, b) (c, d)).2)))]), vc := [] }
  | _ => none
def iwidenC : Con := con [itvA, itvA] iwidenS
def rjoin8S : FSpec := fun ds _ => match ds with
  | [.i a, .i b, .i c, .i d] => some { val := .one (.agg [.c (.int .i64 (.sym ((rjnI (a, b) (c, d)).1))), .c (.int .i64 (.sym ((rjnI (a, b) (c, d)).2)))]), vc := [] }
  | _ => none
def rjoin8C : Con := con [itvA, itvA] rjoin8S
def rwiden8S : FSpec := fun ds _ => match ds with
  | [.i a, .i b, .i c, .i d] => some { val := .one (.agg [.c (.int .i64 (.sym ((rwdI (a, b) (c, d)).1))), .c (.int .i64 (.sym ((rwdI (a, b) (c, d)).2)))]), vc := [] }
  | _ => none
def rwiden8C : Con := con [itvA, itvA] rwiden8S
end Go.Proofs.Ytdagadcflignfaa.Sx.Z
namespace Go.Proofs.Ytdagadcflignfaa.Sx
open Go.RowKit
/-- The contract, for what lies under a measure. -/
def FSpec.under (spec : FSpec) (μ : List Dat → Nat) (m : Nat) : FSpec := fun ds fr => match spec ds fr with
  | some e => some { e with vc := (μ ds < m) :: e.vc }
  | none => none
/-- A function that calls itself keeps its contract, if it keeps it for what lies under m + 1 as far as it keeps it for what lies under m. -/
theorem con_rec {P : Program} {f : FuncId} {aps : List AP} {spec : FSpec} (μ : List Dat → Nat) (hen : ∀ (args : Array Value) (w : World), (callFunc f args).run P w = .ok (.enter f args) w) (H : ∀ m, ConOK P f (con aps (spec.under μ m)) → ConOK P f (con aps (spec.under μ (m + 1)))) : ConOK P f (con aps spec) := by
  have all : ∀ m, ConOK P f (con aps (spec.under μ m)) := fun m => by
    induction m with
    | zero =>
      refine ⟨hen, fun hp fr args e he hv => ?_⟩
      exfalso
      unfold con at he
      split at he
      · rename_i ds ps hfl
        split at he
        · rename_i e' hs
          unfold FSpec.under at hs
          split at hs
          · rename_i e2 h2
            simp only [Option.some.injEq] at hs he
            subst hs
            subst he
            exact Nat.not_lt_zero _ (all_append.1 hv).2.1
          · cases hs
        · cases he
      · cases he
    | succ m ih => exact H m ih
  refine ⟨hen, fun hp fr args e he hv => ?_⟩
  have he0 := he
  unfold con at he
  split at he
  · rename_i ds ps hfl
    split at he
    · rename_i e' hs
      simp only [Option.some.injEq] at he
      subst he
      have hu : con aps (spec.under μ (μ ds + 1)) hp fr args = some { e' with vc := ps ++ (μ ds < μ ds + 1) :: e'.vc, st := if plainE e' then [] else kills (keepOwn hp (idsL args)) } := by
        unfold con
        rw [hfl]
        show (match spec.under μ (μ ds + 1) ds fr with | some e => some { e with vc := ps ++ e.vc, st := if plainE e then [] else kills (keepOwn hp (idsL args)) } | none => none) = _
        unfold FSpec.under
        rw [hs]
        rfl
      intro w0 w ρ vs hw hn ha
      have ha2 := all_append.1 hv
      exact ((all (μ ds + 1)).calls hp fr args _ hu (all_append.2 ⟨ha2.1, Nat.lt_succ_self _, ha2.2⟩) w0 w ρ vs hw hn ha).mono fun en w' h => by
        obtain ⟨ρ', v, h1, h2, h3⟩ := h
        exact ⟨ρ', v, h1, h2, ⟨h3.ext, h3.only, h3.below, h3.keep, h3.st, h3.nw, h3.apart, h3.fz⟩⟩
    · cases he
  · cases he
end Go.Proofs.Ytdagadcflignfaa.Sx
namespace Go.Proofs.Ytdagadcflignfaa.Sx
open Go.RowKit
def SC.sh (n : Nat) : SC → SC
  | .ptr id o => .ptr (n + id) o
  | .slice id o l => .slice (n + id) o l
  | .osl e id lo k => .osl e (n + id) lo k
  | .optr e id i j => .optr e (n + id) i j
  | x => x
def Seg.sh (n : Nat) : Seg → Seg | .c x => .c (x.sh n) | .ints k m f => .ints k m f
def shS (n : Nat) : List Seg → List Seg
  | [] => []
  | s :: r => s.sh n :: shS n r
def V1.sh (n : Nat) : V1 → V1 | .sc c => .sc (c.sh n) | .agg l => .agg (shS n l)
def shT (n : Nat) : List V1 → List V1
  | [] => []
  | x :: r => x.sh n :: shT n r
def SV.sh (n : Nat) : SV → SV | .one x => .one (x.sh n) | .tup l => .tup (shT n l) | x => x
def Ent.sh (n : Nat) : Ent → Ent | .own T l => .own T (shS n l) | .row T l => .row T (shS n l) | .ro l => .ro (shS n l) | x => x
def shH (n : Nat) : Heap → Heap
  | [] => []
  | (i, x) :: r => (n + i, x.sh n) :: shH n r
/-- With other numbers for the new blocks. -/
def Eff.sh (n : Nat) (e : Eff) : Eff := { e with val := e.val.sh n, nw := shH n e.nw }
def Map.sh (ρ : Map) (n : Nat) : Map := { ρ with m := fun i => if n ≤ i then ρ (i - n) else none, cap := fun i => ρ.cap (i - n) }
theorem sh_at (ρ : Map) (n i : Nat) : (ρ.sh n) (n + i) = ρ i := by
  show (if n ≤ n + i then ρ (n + i - n) else none) = ρ i
  rw [if_pos (Nat.le_add_right n i), Nat.add_sub_cancel_left]
theorem sh_low (ρ : Map) {n i : Nat} (h : ¬ n ≤ i) : (ρ.sh n) i = none := if_neg h
theorem sh_hi (ρ : Map) {n i : Nat} (h : n ≤ i) : (ρ.sh n) i = ρ (i - n) := if_pos h
theorem sh_blk (ρ : Map) (n i : Nat) : (ρ.sh n).blk (n + i) = ρ.blk i := by unfold Map.blk; rw [sh_at]
theorem sh_off (ρ : Map) (n i : Nat) : (ρ.sh n).off (n + i) = ρ.off i := by unfold Map.off; rw [sh_at]
theorem sh_addr (ρ : Map) (n i o : Nat) : (ρ.sh n).at (n + i) o = ρ.at i o := by unfold Map.at; rw [sh_blk, sh_off]
theorem sh_cap (ρ : Map) (n i : Nat) : (ρ.sh n).cap (n + i) = ρ.cap i := by show ρ.cap (n + i - n) = _; rw [Nat.add_sub_cancel_left]
theorem crel_sh {ρ : Map} {n : Nat} {x : SC} {v : Value} (h : CRel ρ x v) : CRel (ρ.sh n) (x.sh n) v := by
  cases x with
  | ptr id o => exact ⟨by rw [sh_at]; exact h.1, by rw [sh_addr]; exact h.2⟩
  | slice id o l =>
    obtain ⟨A, c, h1, h2, h3⟩ := h
    exact ⟨A, c, h1, h2, h3.imp (fun ⟨a, b⟩ => ⟨by rw [sh_at]; exact a, by rw [sh_addr]; exact b⟩) fun q => q⟩
  | osl e id lo k =>
    obtain ⟨A, c, h1, h2, h3⟩ := h
    exact ⟨A, c, h1, h2, h3.imp (fun q => q) fun ⟨a, b, d⟩ => ⟨by rw [sh_blk]; exact a, by rw [sh_cap]; exact b, by rw [sh_at]; exact d⟩⟩
  | optr e id i j => exact ⟨by rw [sh_at]; exact h.1, by rw [sh_blk]; exact h.2⟩
  | _ => exact h
theorem cells_sh (n : Nat) : ∀ l : List Seg, cellsOf (shS n l) = (cellsOf l).map (SC.sh n)
  | [] => rfl
  | .c x :: r => by
    have e1 : cellsOf (shS n (.c x :: r)) = (Seg.c (x.sh n)).cells ++ cellsOf (shS n r) := cellsOf_cons _ _
    rw [e1, cellsOf_cons, cells_sh n r, List.map_append]; rfl
  | .ints k m f :: r => by
    have e1 : cellsOf (shS n (.ints k m f :: r)) = (Seg.ints k m f).cells ++ cellsOf (shS n r) := cellsOf_cons _ _
    rw [e1, cellsOf_cons, cells_sh n r, List.map_append]
    congr 1
    simp [Seg.cells, SC.sh]
theorem csrel_sh {ρ : Map} {n : Nat} {l : List Seg} {vs : List Value} (h : CsRel ρ (cellsOf l) vs) : CsRel (ρ.sh n) (cellsOf (shS n l)) vs := by
  rw [cells_sh]
  refine ⟨by rw [List.length_map]; exact h.1, fun i x v hx hv => ?_⟩
  rw [List.getElem?_map] at hx
  cases hl : (cellsOf l)[i]? with
  | none => rw [hl] at hx; cases hx
  | some y =>
    rw [hl] at hx
    obtain rfl : y.sh n = x := by simpa using hx
    exact crel_sh (h.2 i y v hl hv)
theorem v1_sh {ρ : Map} {n : Nat} {x : V1} {v : Value} (h : V1Rel ρ x v) : V1Rel (ρ.sh n) (x.sh n) v := by
  cases x with
  | sc c => exact crel_sh h
  | agg l => obtain ⟨cs, h1, h2⟩ := h; exact ⟨cs, h1, csrel_sh h2⟩
theorem tup_sh {ρ : Map} {n : Nat} : ∀ {l : List V1} {vs : List Value}, TupRel ρ l vs → TupRel (ρ.sh n) (shT n l) vs
  | [], [], _ => trivial
  | [], _ :: _, h => h.elim
  | _ :: _, [], h => h.elim
  | _ :: _, _ :: _, h => ⟨v1_sh h.1, tup_sh h.2⟩
theorem ur_sh {ρ : Map} {n : Nat} {x : SV} {v : Value} (h : UR ρ x v) : UR (ρ.sh n) (x.sh n) v := by
  cases x with
  | one x => exact v1_sh h
  | tup l => obtain ⟨vs, h1, h2⟩ := h; exact ⟨vs, h1, tup_sh h2⟩
  | cond g x => exact h
  | junk => exact h
theorem own_sh (n : Nat) (x : Ent) : (x.sh n).isOwn = x.isOwn := by cases x <;> rfl
theorem erel_sh {B n id : Nat} {ρ : Map} {w : World} {x : Ent} (h : ERel B ρ w id x) : ERel B (ρ.sh n) w (n + id) (x.sh n) := by
  cases x with
  | own T l =>
    obtain ⟨h1, h2, h3, vs, h4, h5⟩ := h
    exact ⟨by rw [sh_at]; exact h1, by rw [sh_off]; exact h2, by rw [sh_blk]; exact h3, vs, csrel_sh h4, by rw [sh_blk]; exact h5⟩
  | row T l =>
    obtain ⟨h1, h2, h3, vs, rest, h4, h5⟩ := h
    exact ⟨by rw [sh_at]; exact h1, by rw [sh_off]; exact h2, by rw [sh_blk]; exact h3, vs, rest, csrel_sh h4, by rw [sh_blk]; exact h5⟩
  | orow e d =>
    rcases h with ⟨h1, h2⟩ | ⟨h1, h2, h3, h4⟩
    · exact .inl ⟨by rw [sh_at]; exact h1, h2⟩
    · exact .inr ⟨by rw [sh_at]; exact h1, by rw [sh_off]; exact h2, by rw [sh_blk]; exact h3, by rw [sh_blk, sh_cap]; exact h4⟩
  | ro l =>
    obtain ⟨h1, vs, h2, h3⟩ := h
    exact ⟨by rw [sh_at]; exact h1, vs, csrel_sh h2, by rw [sh_blk, sh_off]; exact h3⟩
  | gone => trivial
theorem look_sh (n : Nat) : ∀ (h : Heap) (k : Nat), look (shH n h) (n + k) = (look h k).map (Ent.sh n)
  | [], _ => rfl
  | (i, x) :: r, k => by
    simp only [shH, look]
    by_cases hk : i = k
    · subst hk; simp
    · have h1 : ¬ ((i == k) = true) := by simpa using hk
      have h2 : ¬ ((n + i == n + k) = true) := by simp; omega
      rw [if_neg h1, if_neg h2, look_sh n r k]
theorem look_sh_low (n : Nat) : ∀ (h : Heap) (k : Nat), k < n → look (shH n h) k = none
  | [], _, _ => rfl
  | (i, x) :: r, k, hk => by
    simp only [shH, look]
    have h2 : ¬ ((n + i == k) = true) := by simp; omega
    rw [if_neg h2, look_sh_low n r k hk]
theorem look_sh_some {n : Nat} {h : Heap} {k : Nat} {x : Ent} (hx : look (shH n h) k = some x) : ∃ j y, k = n + j ∧ look h j = some y ∧ x = y.sh n := by
  by_cases hk : k < n
  · rw [look_sh_low n h k hk] at hx; cases hx
  · have e : k = n + (k - n) := by omega
    rw [e, look_sh] at hx
    cases hl : look h (k - n) with
    | none => rw [hl] at hx; cases hx
    | some y => rw [hl] at hx; exact ⟨k - n, y, e, hl, by simpa using hx.symm⟩
theorem wh_sh {w0 : W0} {ρ : Map} {h : Heap} {w : World} (n : Nat) (hw : WH w0 ρ h w) : WH w0 (ρ.sh n) (shH n h) w := by
  refine ⟨hw.below, fun id e he => ?_, fun i j e f he hf h1 h2 hne hi hj => ?_, hw.froz, hw.sub, hw.mu0, hw.f00, hw.old⟩
  · obtain ⟨j, y, rfl, hl, rfl⟩ := look_sh_some he
    exact erel_sh (hw.ents j y hl)
  · obtain ⟨i', y, rfl, hl, rfl⟩ := look_sh_some he
    obtain ⟨j', z, rfl, hm, rfl⟩ := look_sh_some hf
    rw [own_sh] at h1 h2
    rw [sh_at] at hi hj
    rw [sh_blk, sh_blk]
    exact hw.apart i' j' y z hl hm h1 h2 (by omega) hi hj
theorem nin_sh {n : Nat} {h : Heap} {id : Nat} (hi : nin id (keys h) = true) : nin (n + id) (keys (shH n h)) = true := by
  rw [nin_keys] at hi ⊢
  rw [look_sh]
  simpa using hi
theorem scIn_sh {n : Nat} {h : Heap} {x : SC} (hx : scIn (keys h) x = true) : scIn (keys (shH n h)) (x.sh n) = true := by
  cases x <;> first | exact nin_sh hx | exact hx
theorem segsIn_sh {n : Nat} {h : Heap} : ∀ {l : List Seg}, segsIn (keys h) l = true → segsIn (keys (shH n h)) (shS n l) = true
  | [], _ => rfl
  | .c x :: r, hx => by
    simp only [segsIn, Bool.and_eq_true] at hx
    show (scIn (keys (shH n h)) (x.sh n) && segsIn (keys (shH n h)) (shS n r)) = true
    rw [scIn_sh hx.1, segsIn_sh hx.2]; rfl
  | .ints k m f :: r, hx => by
    simp only [segsIn] at hx
    exact segsIn_sh (l := r) hx
theorem v1In_sh {n : Nat} {h : Heap} {x : V1} (hx : v1In (keys h) x = true) : v1In (keys (shH n h)) (x.sh n) = true := by
  cases x with
  | sc c => exact scIn_sh hx
  | agg l => exact segsIn_sh hx
theorem tupIn_sh {n : Nat} {h : Heap} : ∀ {l : List V1}, l.all (v1In (keys h)) = true → (shT n l).all (v1In (keys (shH n h))) = true
  | [], _ => rfl
  | x :: r, hx => by
    simp only [List.all_cons, Bool.and_eq_true] at hx
    show ((x.sh n :: shT n r).all _) = true
    simp only [List.all_cons, Bool.and_eq_true]
    exact ⟨v1In_sh hx.1, tupIn_sh hx.2⟩
theorem svIn_sh {n : Nat} {h : Heap} {x : SV} (hx : svIn (keys h) x = true) : svIn (keys (shH n h)) (x.sh n) = true := by
  cases x with
  | one x => exact v1In_sh hx
  | tup l => exact tupIn_sh hx
  | cond g x => cases hx
  | junk => cases hx
theorem newOK_sh {n : Nat} {g : Heap} : ∀ {h : Heap}, newOK (keys g) 0 h = true → newOK (keys (shH n g)) n (shH n h) = true
  | [], _ => rfl
  | (i, .own T l) :: r, hx => by
    simp only [newOK, Bool.and_eq_true, Nat.ble_eq, Nat.blt_eq] at hx
    show newOK (keys (shH n g)) n ((n + i, .own T (shS n l)) :: shH n r) = true
    simp only [newOK, Bool.and_eq_true, Nat.ble_eq, Nat.blt_eq]
    exact ⟨⟨⟨by omega, by omega⟩, segsIn_sh hx.1.2⟩, newOK_sh hx.2⟩
  | (i, .row T l) :: r, hx => by
    simp only [newOK, Bool.and_eq_true, Nat.ble_eq, Nat.blt_eq] at hx
    show newOK (keys (shH n g)) n ((n + i, .row T (shS n l)) :: shH n r) = true
    simp only [newOK, Bool.and_eq_true, Nat.ble_eq, Nat.blt_eq]
    exact ⟨⟨⟨by omega, by omega⟩, segsIn_sh hx.1.2⟩, newOK_sh hx.2⟩
  | (i, .orow e d) :: r, hx => by
    simp only [newOK, Bool.and_eq_true, Nat.ble_eq, Nat.blt_eq] at hx
    show newOK (keys (shH n g)) n ((n + i, .orow e d) :: shH n r) = true
    simp only [newOK, Bool.and_eq_true, Nat.ble_eq, Nat.blt_eq]
    exact ⟨⟨by omega, by omega⟩, newOK_sh hx.2⟩
  | (i, .ro l) :: r, hx => by cases hx
  | (i, .gone) :: r, hx => by cases hx
theorem plainC_sh (n : Nat) (x : SC) : plainC (x.sh n) = plainC x := by cases x <;> rfl
theorem plainS_sh (n : Nat) : ∀ l : List Seg, plainS (shS n l) = plainS l
  | [] => rfl
  | .c x :: r => by show (plainC (x.sh n) && plainS (shS n r)) = (plainC x && plainS r); rw [plainC_sh, plainS_sh n r]
  | .ints k m f :: r => plainS_sh n r
theorem plainV_sh (n : Nat) (x : V1) : plainV (x.sh n) = plainV x := by
  cases x with
  | sc c => exact plainC_sh n c
  | agg l => exact plainS_sh n l
theorem plainT_sh (n : Nat) : ∀ l : List V1, (shT n l).all plainV = l.all plainV
  | [] => rfl
  | x :: r => by show ((x.sh n :: shT n r).all plainV) = _; rw [List.all_cons, List.all_cons, plainV_sh, plainT_sh n r]
theorem plainSV_sh (n : Nat) (x : SV) : plainSV (x.sh n) = plainSV x := by
  cases x with
  | one x => exact plainV_sh n x
  | tup l => exact plainT_sh n l
  | _ => rfl
/-- A contract whose answer's new blocks are numbered from 0 on. -/
def conS (aps : List AP) (spec : List Dat → Option Eff) : Con := con aps fun ds fr => match spec ds with
  | some e => some (e.sh fr)
  | none => none
/-- **A function does as its contract says**, if that can be shown of its body: with new blocks. -/
theorem fn_okS {P : Program} {tt : TT} (htt : TTOK P tt) (hm : P.follows .mixedOrders = true) {f : FuncId} {fn : Func} {c : Code} (hf : P.funcs[f]? = some fn) (hb : fn.body = some c) (hen : ∀ (args : Array Value) (w : World), (callFunc f args).run P w = .ok (.enter f args) w)
    {A : List Dat → Ann} (hC : ∀ ds id, CtxOK P ((A ds).C id)) {aps : List AP} {spec : List Dat → Option Eff} (hn : Nat.ble aps.length fn.ntmps = true)
    (H : ∀ ds e svs h id, spec ds = some e → All e.vc → unP aps ds 0 = some (svs, h, id) → sx tt fn.ntmps (A ds) LF c (retK tt fn.results.toList e 0) { tm := slots0 svs 0, hp := h, nx := id }) : ConOK P f (conS aps spec) := by
  refine ⟨hen, ?_⟩
  intro hp fr args e0 h0 hvc w0 w ρ vs hw hfr hargs
  unfold conS con at h0
  split at h0
  · rename_i ds ps hds
    split at h0
    · rename_i e he0
      have hes : ∃ e1, spec ds = some e1 ∧ e = e1.sh fr := by
        dsimp only at he0
        split at he0
        · rename_i e1 h1
          exact ⟨e1, h1, by simpa using he0.symm⟩
        · cases he0
      obtain ⟨e1, he, rfl⟩ := hes
      obtain rfl := by simpa using h0
      obtain ⟨hp1, hp2⟩ := all_append.1 hvc
      have hidsAll : ∀ i ∈ idsL args, ownId hp i = true → i ∈ keepOwn hp (idsL args) := fun i hi ho => keepOwn_mem.2 ⟨hi, ho⟩
      obtain ⟨svs, h, ρ1, id, hun, _, hin, hrel⟩ := unP_spec hw aps args ds ps hds hp1 vs hargs hidsAll 0
      have hsx := H ds e1 svs h id he hp2 hun
      have hlen : vs.length ≤ fn.ntmps := by
        have h1 := unP_len aps ds 0 svs h id hun
        have h2 := args_len hrel
        have := Nat.le_of_ble_eq_true hn
        omega
      have hsz : (vs.toArray ++ Array.replicate (fn.ntmps - vs.toArray.size) undef).size = fn.ntmps := by simp; omega
      have hwh : WH ⟨w, passF ρ w (keepOwn hp (idsL args)), fun _ => false⟩ ρ1 h w := by
        refine ⟨BelowM.refl _ _ _, fun i x hx => (hin.ents i x hx).1 _ _, fun i j x y hx _ ho => ?_, fun b cs hb => ?_, fun b cs hb => ?_, hin.hmu, hin.hf0, fun b cs hb => .inl ?_⟩
        · have := (hin.ents i x hx).2.1
          rw [this] at ho; cases ho
        · rw [hin.hfz] at hb
          exact passF_froz hw.froz hb
        · rw [hin.hf0] at hb; rw [hin.hfz]; exact hb
        · rw [hin.hfz] at hb; rw [hin.hf0]; exact hb
      refine calls_of_wp hf hb ?_
      refine sx_spec htt hm (hC ds) (w0 := ⟨w, passF ρ w (keepOwn hp (idsL args)), fun _ => false⟩) lf_spec c _ _ hsx _ ?_ ρ1 _ w ⟨⟨hsz, rfl, ?_⟩, hwh, fun i hi => hin.out i (.inr hi)⟩
      · intro ex xx s' ρ' a w' hex hk hs'
        have done : retK tt fn.results.toList e1 0 .ret s' → a.defers = [] ∧ ∃ v, (results fn a.tmps).run P w' = .ok v w' ∧ ∃ ρ'' u, Ending.returned v = .returned u ∧ UR ρ'' (e1.sh fr).val u ∧ Fr w0.heap.size ρ ρ'' w w' { e1.sh fr with vc := ps ++ (e1.sh fr).vc, st := if plainE (e1.sh fr) then [] else kills (keepOwn hp (idsL args)) } := by
          intro hk
          simp only [retK] at hk
          split at hk
          · rename_i v qs hres
            rw [allK_iff] at hk
            obtain ⟨hq, hk⟩ := hk
            generalize hfrz : frzSV s'.hp v e1.val = fz3 at hk
            obtain ⟨v', fs, ids⟩ := fz3
            dsimp only at hk
            rw [allK_iff] at hk
            obtain ⟨hfs, hk⟩ := hk
            split at hk
            rename_i la lb hla hlb
            split at hk
            rename_i hok
            obtain ⟨hk1, hk2⟩ := all_append.1 (conj_all hk)
            -- what is told lies still
            obtain ⟨u, hu1, hu2⟩ := resS_spec htt hs' hres hq
            have hu2' := frzSV_spec hs'.mem hfrz hfs (fun i hi ho => keepOwn_mem.2 ⟨hi, ho⟩) hu2
            have hfr0 := fr_freeze (B := w.heap.size) hs'.mem.froz (keepOwn s'.hp ids) .junk []
            have hmem' : WH ⟨w, passF ρ w (keepOwn hp (idsL args)), fun _ => false⟩ (ρ'.frz w' (keepOwn s'.hp ids)) (kills (keepOwn s'.hp ids) ++ s'.hp) w' := by
              have := wh_step hs'.mem hfr0 (fun i x hx => stOK_kills i x hx) (fun _ _ h => by simp [look] at h)
              exact this
            have hs2 : SH ⟨w, passF ρ w (keepOwn hp (idsL args)), fun _ => false⟩ 0 { tm := [], hp := kills (keepOwn s'.hp ids) ++ s'.hp, nx := s'.nx } (ρ'.frz w' (keepOwn s'.hp ids)) { a with tmps := #[] } w' := ⟨⟨rfl, hs'.slots.defers, fun t x hx => by simp [look] at hx⟩, hmem', hs'.fresh⟩
            generalize hρ3 : ρ'.frz w' (keepOwn s'.hp ids) = ρ3 at hu2' hmem' hs2
            have hle := svL_spec hla hk1
            have hhe := heapL_spec hlb hk2
            generalize mHeap (kills (keepOwn s'.hp ids) ++ s'.hp) e1.nw (mSV v' e1.val) = δ at *
            unfold endOK at hok
            simp only [Bool.and_eq_true] at hok
            obtain ⟨⟨hinj, hnew⟩, hsv⟩ := hok
            have hnj : e1.val ≠ .junk := fun hj => by rw [hj] at hsv; cases hsv
            have hu3 := ur_le hle hu2' hnj
            have hw2 := (stLe_spec (δ := δ) (t := { tm := [], hp := e1.nw, nx := 0 + 8 }) ⟨trivial, hhe, hinj⟩ hs2).mem
            have hB : w0.heap.size ≤ w.heap.size := hw.below.size
            generalize hρr : ρ3.ren δ (0 + 8) = ρr at hu3 hw2
            have hmu : ρr.mu = fun _ => false := by rw [← hρr, ← hρ3]; exact hs'.mem.mu0
            have hf0 : ρr.f0 = passF ρ w (keepOwn hp (idsL args)) := by rw [← hρr, ← hρ3]; exact hs'.mem.f00
            replace hu3 := ur_sh (n := fr) hu3
            replace hw2 := wh_sh fr hw2
            replace hnew := newOK_sh (n := fr) hnew
            replace hsv := svIn_sh (n := fr) hsv
            replace hmu : (ρr.sh fr).mu = fun _ => false := hmu
            replace hf0 : (ρr.sh fr).f0 = passF ρ w (keepOwn hp (idsL args)) := hf0
            clear hρr hinj hnj hle hhe
            generalize ρr.sh fr = ρr at *
            generalize hE : e1.sh fr = e at *
            have hEn : shH fr e1.nw = e.nw := by rw [← hE]; rfl
            have hEv : e1.val.sh fr = e.val := by rw [← hE]; rfl
            dsimp only at hw2
            rw [hEn] at hw2 hnew hsv
            rw [hEv] at hu3 hsv
            let ρ2 : Map := { m := fun i => if nin i (keys e.nw) then ρr i else ρ i, cap := fun i => if nin i (keys e.nw) then ρr.cap i else ρ.cap i, fz := if plainE e then ρ.fz else ρr.fz, f0 := ρ.f0, mu := ρ.mu }
            have ag : ∀ i, nin i (keys e.nw) = true → ρ2 i = ρr i ∧ ρ2.cap i = ρr.cap i := fun i hi => ⟨by simp only [ρ2]; rw [if_pos hi], by simp only [ρ2]; rw [if_pos hi]⟩
            have off : ∀ i, nin i (keys e.nw) = false → ρ2 i = ρ i := fun i hi => by simp only [ρ2]; rw [if_neg (by rw [hi]; simp)]
            have oldKey : ∀ i, (ρ i).isSome = true → nin i (keys e.nw) = false := fun i hi => by
              cases hn : nin i (keys e.nw) with
              | false => rfl
              | true =>
                obtain ⟨x, hx⟩ := Option.isSome_iff_exists.1 (nin_keys.1 hn)
                rw [hfr i x hx] at hi; cases hi
            have fzle : FzLe ρ.fz ρr.fz := fun b cs hb => hw2.sub b cs (by rw [hf0]; exact passF_le _ _ _ b cs hb)
            have ownNew : ∀ i x, look e.nw i = some x → (ρr i).isSome = true → w.heap.size ≤ ρr.blk i ∧ ρr.fz (ρr.blk i) = none := fun i x hx hi => by
              obtain ⟨ho, _⟩ := newOK_spec hnew i x hx
              obtain ⟨hM, _⟩ := erel_some (hw2.ents i x hx) ho hi
              refine ⟨?_, hM.2⟩
              rcases hM.1 with h | h
              · exact h
              · rw [hmu] at h; cases h
            have blk2 : ∀ i, nin i (keys e.nw) = true → ρ2.blk i = ρr.blk i := fun i hi => by simp [Map.blk, (ag i hi).1]
            have hzz : ρ2.fz = ρr.fz ∨ plainE e = true := by
              cases hpl : plainE e with
              | true => exact .inr rfl
              | false => left; simp only [ρ2, hpl]; rfl
            refine ⟨hs'.slots.defers, u, hu1, ρ2, u, rfl, ur_in ag (hzz.imp (fun h => h) fun h => by unfold plainE at h; exact (Bool.and_eq_true _ _ ▸ h).1) hsv hu3, ?_⟩
            refine ⟨⟨fun i p hi => ?_, fun i hi => ?_, ?_, rfl, rfl⟩, fun i hi => ?_, ⟨hs'.mem.below.os, hs'.mem.below.tape, hs'.mem.below.output, hs'.mem.below.size, fun k hk => absurd hk (Nat.not_lt_zero k)⟩, fun b hb' _ => hs'.mem.below.block b hb' (by rw [hs'.mem.mu0]), fun i x hx => ?_, fun i x hx => ?_, fun i j x y hx hy hne hii hjj => ?_, fun b cs hb => ?_⟩
            · rw [off i (oldKey i (by rw [hi]; rfl))]; exact hi
            · have := oldKey i hi
              simp only [ρ2]; rw [if_neg (by rw [this]; simp)]
            · simp only [ρ2]
              split
              · exact fun _ _ h => h
              · exact fzle
            · have hi' : look e.nw i = none := hi
              refine off i ?_
              cases hn : nin i (keys e.nw) with
              | false => rfl
              | true => rw [nin_keys, hi'] at hn; cases hn
            · have hx' : look (if plainE e then [] else kills (keepOwn hp (idsL args))) i = some x := hx
              split at hx'
              · simp [look] at hx'
              · rw [(kills_look hx').1]; trivial
            · have hx' : look e.nw i = some x := hx
              obtain ⟨ho, _, _, hni⟩ := newOK_spec hnew i x hx'
              have hki : nin i (keys e.nw) = true := nin_keys.2 (by rw [hx']; rfl)
              refine ⟨erel_in ag hki (hzz.imp (fun h => h) fun h => by unfold plainE at h; exact plainH_spec (Bool.and_eq_true _ _ ▸ h).2 i x hx') hni (fun hi => ?_) (hw2.ents i x hx'), fun hi => .inl ?_, ho⟩
              · obtain ⟨g1, g2⟩ := ownNew i x hx' hi
                refine ⟨.inl (by omega), ?_⟩
                simp only [ρ2]
                split
                · exact hw.froz.new g1
                · exact g2
              · rw [blk2 i hki]
                exact (ownNew i x hx' (by rw [← (ag i hki).1]; exact hi)).1
            · have hx' : look e.nw i = some x := hx
              have hy' : look e.nw j = some y := hy
              have hki : nin i (keys e.nw) = true := nin_keys.2 (by rw [hx']; rfl)
              have hkj : nin j (keys e.nw) = true := nin_keys.2 (by rw [hy']; rfl)
              rw [blk2 i hki, blk2 j hkj]
              exact hw2.apart i j x y hx' hy' (newOK_spec hnew i x hx').1 (newOK_spec hnew j y hy').1 hne (by rw [← (ag i hki).1]; exact hii) (by rw [← (ag j hkj).1]; exact hjj)
            · cases hpl : plainE e with
              | true =>
                left
                have : ρ2.fz b = some cs := hb
                simp only [ρ2, hpl] at this
                exact this
              | false =>
                have hb2 : ρr.fz b = some cs := by
                  have : ρ2.fz b = some cs := hb
                  simp only [ρ2, hpl] at this
                  exact this
                have hnw : ∀ i x, look e.nw i = some x → (ρ2 i).isSome = true → ρ2.blk i ≠ b := fun i x hx hi hbb => by
                  have hki : nin i (keys e.nw) = true := nin_keys.2 (by rw [hx]; rfl)
                  obtain ⟨_, g2⟩ := ownNew i x hx (by rw [← (ag i hki).1]; exact hi)
                  rw [← blk2 i hki, hbb, hb2] at g2; cases g2
                rcases hw2.old b cs hb2 with h1 | h1 | h1
                · rw [hf0] at h1
                  rcases passF_some h1 with h2 | ⟨⟨i, hi, hsi, hbi⟩, _⟩
                  · exact .inl h2
                  · exact .inr ⟨.inr ⟨i, by simp only [Bool.false_eq_true, ↓reduceIte]; exact kills_mem hi, hsi, hbi.symm⟩, hw2.froz b cs hb2, hnw⟩
                · exact .inr ⟨.inl h1, hw2.froz b cs hb2, hnw⟩
                · rw [hmu] at h1; cases h1
            · exact hk.elim
            · exact hk.elim
          · exact hk.elim
        cases ex with
        | normal => simp only [exOf, Option.some.injEq] at hex; subst hex; exact done hk
        | ret => simp only [exOf, Option.some.injEq] at hex; subst hex; exact done hk
        | exit i => simp only [exOf, Option.some.injEq] at hex; subst hex; exact hk.elim
        | goto l => cases hex
        | panic ch => cases hex
        | outgrown => cases hex
      · intro t x hx
        obtain ⟨_, h2⟩ := slots0_look svs 0 t x hx
        obtain ⟨v, hv, hr⟩ := args_get hrel (by simpa using h2)
        have hlt := lt_of_get hv
        have : (vs.toArray ++ Array.replicate (fn.ntmps - vs.toArray.size) undef).getD t undef = v := by
          simp only [Array.getD_eq_getD_getElem?]
          rw [Array.getElem?_append_left (by simpa using hlt)]
          simp [hv]
        rw [this]
        exact ur_vrel hr
    · cases h0
  · cases h0
/-- What is to be shown of a body, for what the contract says of these data. -/
theorem fn_obS {P : Program} {tt : TT} (htt : TTOK P tt) (hm : P.follows .mixedOrders = true) {f : FuncId} {fn : Func} {c : Code} (hf : P.funcs[f]? = some fn) (hb : fn.body = some c) (hen : ∀ (args : Array Value) (w : World), (callFunc f args).run P w = .ok (.enter f args) w)
    {A : List Dat → Ann} (hC : ∀ ds id, CtxOK P ((A ds).C id)) {aps : List AP} {spec : List Dat → Option Eff} (hn : Nat.ble aps.length fn.ntmps = true)
    (H : ∀ ds, Ob tt fn.ntmps (A ds) c fn.results.toList 0 (spec ds) (unP aps ds 0)) : ConOK P f (conS aps spec) :=
  fn_okS htt hm hf hb hen hC hn fun ds e svs h id he hvc hun => by
    have := H ds
    rw [he, hun] at this
    exact allI_iff.1 this hvc
end Go.Proofs.Ytdagadcflignfaa.Sx
