/-
  A node's variables, and a channel's messages, as words.
-/
import Derived.Test.YtomodncooiddaaaDoorReb
import Derived.Test.YtomodncooiddaaaDoorBuc
namespace Go.Proofs.YtomodncooiddaaaDoor.Sx.Z
open Go.RowKit
def joC : Con := fun hp _ args => match args with
  | [.one (.sc (.osl e r (.lit 0) n)), .one (.sc (.raw (.string sep)))] => (match look hp r with
    | some (.orow e' xs) => if Nat.beq e 9 && Nat.beq e' 9 then
        some { val := .one (.sc (.raw (.string (mkB (Lib.join ((txL xs).map (·.data.toList)) sep.data.toList))))), vc := [n.v = xs.len, 0 < xs.len, xs.len ≤ 1000000, (Lib.join ((txL xs).map (·.data.toList)) sep.data.toList).length ≤ 140737488355328] } else none
    | _ => none)
  | _ => none
theorem jo_ok : ConOK Tryd.prog 64 joC := by
  refine ⟨fun _ _ => by kernel_rfl, fun hp fr args e he hv w0 w ρ vs hw hn ha => ?_, fun hp fr caps e he => ?_⟩
  · unfold joC at he
    split at he
    · rename_i e1 r n sep
      split at he
      · rename_i e' xs hr
        split at he
        · rename_i hck
          simp only [Bool.and_eq_true] at hck
          obtain rfl := Nat.eq_of_beq_eq_true hck.1
          obtain rfl := Nat.eq_of_beq_eq_true hck.2
          obtain rfl := Option.some.inj he
          obtain ⟨hnx, h0, h1, h2, _⟩ := hv
          match vs, ha with
          | [a, b], ⟨ha, hb, _⟩ =>
            have hb : b = .string sep := hb
            subst hb
            obtain ⟨A, c, rfl, hnc, hcc⟩ := ha
            have hes : (eks 9).length = 1 := by rw [eks_str]; rfl
            rcases hcc with ⟨hc0, _⟩ | ⟨rfl, hcap, hrs⟩
            · omega
            · have hl0 : (SN.lit 0).v * (eks 9).length = 0 := Nat.zero_mul _
              rw [hl0]
              rcases hw.ents r _ hr with ⟨q0, _⟩ | ⟨_, q2, q3, cs, qh, qs, qd, qc⟩
              · rw [q0] at hrs; cases hrs
              · have hlen := txL_len xs
                rw [hnx, ← hlen]
                refine (Tryd.strings_Join (ρ.blk r) 0 c (txL xs) sep w (fun j x hj => ?_) (heap_lt' qh) (by omega) (by omega) h2).mono ?_
                · have hj' : j < xs.len := by have := (List.getElem?_eq_some_iff.1 hj).1; omega
                  obtain ⟨u, hu, ht⟩ := qc j 0 .str hj' (by rw [eks_str]; rfl)
                  have hu2 : u = .string (xs.el j 0).toS := by cases ht; rfl
                  have hx : x = (xs.el j 0).toS := by
                    have := (List.getElem?_eq_some_iff.1 hj).2
                    rw [← this, txL_get]
                  rw [Lib.cell_of_heap qh, hx, ← hu2, ← hu, hes, Nat.mul_one, Nat.add_zero, Nat.zero_add]
                · rintro en w' ⟨rfl, hb⟩
                  refine ⟨ρ, _, rfl, rfl, ⟨fun _ _ h => h, fun _ _ => rfl, fun _ _ h => h, rfl, rfl⟩, fun _ _ => rfl, hb.mono (Nat.zero_le _), fun b hlt _ => hb.block b hlt, fun i x hx => ?_, fun i x hx => ?_, fun i j x y hx => ?_, fun b cs hcs => .inl hcs⟩
                  · cases hx
                  · cases hx
                  · cases hx
        · cases he
      · cases he
    · cases he
  · have : joC hp fr (.junk :: caps) = none := rfl
    rw [this] at he; cases he
def itR (d : D) (i : Nat) : ByteArray := itT (d.el i 0).toI (d.el i 1).toI
def csp : ByteArray := ⟨#[44, 32]⟩
def stT (no : Bool) (d : D) : ByteArray := if no = true then ⟨#[110, 101, 118, 101, 114]⟩ else if d.len = 0 then ⟨#[110, 111, 116, 104, 105, 110, 103]⟩ else mkB (Lib.join ((List.range d.len).map fun i => (itR d i).data.toList) csp.data.toList)
def itsOK (d : D) : Prop := d.len ≤ 1000 ∧ ∀ i, i < d.len → nI (d.el i 0).toI ∧ nI (d.el i 1).toI
theorem itT_size {l h : Int} (hl : nI l) (hh : nI h) : (itT l h).size ≤ 46 := by
  have h1 := itZ hl
  have h2 := itZ hh
  have h4 : toB.size = 4 := rfl
  unfold itT
  split
  · decide
  · split
    · omega
    · split
      · decide
      · rw [ba_size, ba_size]; omega
def itRow (d : D) (i : Nat) : List D := [.s (itR d i)]
def cpT (n : Nat) (f : Nat → List D) : D := .l ((List.range n).map f)
theorem cpT_len (n : Nat) (f : Nat → List D) : (cpT n f).len = n := by show ((List.range n).map f).length = n; simp
theorem cpT_el {n i j : Nat} {f : Nat → List D} (h : i < n) : (cpT n f).el i j = (f i).getD j (.i 0) := by
  show (((List.range n).map f).getD i []).getD j (.i 0) = _
  rw [List.getD_eq_getElem?_getD (l := (List.range n).map f), List.getElem?_map, List.getElem?_range h]; rfl
theorem txL_cpT (n : Nat) (g : Nat → ByteArray) : txL (cpT n fun i => [.s (g i)]) = (List.range n).map g := by
  unfold txL
  rw [cpT_len]
  refine List.map_congr_left fun i hi => ?_
  rw [cpT_el (List.mem_range.1 hi)]; rfl
theorem lens_le {xs : List (List UInt8)} {k : Nat} (h : ∀ x ∈ xs, x.length ≤ k) : Lib.lens xs ≤ xs.length * k := by
  unfold Lib.lens
  induction xs with
  | nil => simp
  | cons x xs ih =>
    have h1 := h x (by simp)
    have h2 := ih fun y hy => h y (by simp [hy])
    rw [List.map_cons, List.sum_cons, List.length_cons, Nat.add_mul]; omega
theorem join_le {xs : List (List UInt8)} {sep : List UInt8} {k : Nat} (h : ∀ x ∈ xs, x.length ≤ k) : (Lib.join xs sep).length ≤ xs.length * (k + sep.length) := by
  cases xs with
  | nil => simp [Lib.join_nil]
  | cons x r =>
    rw [Lib.join_length]
    have := lens_le h
    have e : (x :: r).length * (k + sep.length) = (x :: r).length * k + sep.length * (x :: r).length := by rw [Nat.mul_add, Nat.mul_comm sep.length]
    rw [e]
    have : sep.length * r.length ≤ sep.length * (x :: r).length := Nat.mul_le_mul_left _ (by simp)
    omega
theorem tx_dl (l : List ByteArray) : l.map (fun x => x.data.toList) = l.map (·.data.toList) := rfl
theorem st_join {ds : D} (hd : itsOK ds) : (Lib.join ((List.range ds.len).map fun i => (itR ds i).data.toList) csp.data.toList).length ≤ 48000 := by
  refine Nat.le_trans (join_le (k := 46) fun x hx => ?_) ?_
  · obtain ⟨i, hi, rfl⟩ := List.mem_map.1 hx
    have := hd.2 i (List.mem_range.1 hi)
    have := itT_size this.1 this.2
    rw [Array.length_toList]; exact this
  · rw [List.length_map, List.length_range]
    have : csp.data.toList.length = 2 := rfl
    rw [this]; have := hd.1; omega
noncomputable def temS : FSpec := fun ds _ => match ds with
  | [.b no, .d ds, .i zn, .b zb, .f zf, .d cs, .d rs] => some { val := .one (.sc (.bool (.sym (no)))), vc := [] }
  | _ => none
noncomputable def temC : Con := con [.agg [.c .bool, .c (.rows 75), .c (.int .i64), .c .bool, .ints .i64 49, .c (.rows 75), .c (.rows 212)]] temS
theorem tem_ok : ConOK Tryd.prog 63 temC := by
  refine fn_ob tt_ok mixed Tryd.func63 rfl (fun _ _ => by kernel_rfl) (A := fun ds => ⟨fun _ => Cons.of [], fun _ => none, fun _ => none⟩) (fun _ _ => cons_nil) (by kernel_rfl) ?_
  intro ds fr
  unfold temS
  split
  · rename_i no ds zn zb zf cs rs
    refine kmp (q := no = no) (by kernel_rfl) ?_
    rfl
  · trivial
noncomputable def sttS : FSpec := fun ds _ => match ds with
  | [.b no, .d ds, .i zn, .b zb, .f zf, .d cs, .d rs] => some { val := .one (.sc (.raw (.string (stT no ds)))), vc := [itsOK ds] }
  | _ => none
noncomputable def sttC : Con := con [.agg [.c .bool, .c (.rows 75), .c (.int .i64), .c .bool, .ints .i64 49, .c (.rows 75), .c (.rows 212)]] sttS
theorem stt_ok : ConOK Tryd.prog 40 sttC := by
  refine fn_ob tt_ok mixed Tryd.func40 rfl (fun _ _ => by kernel_rfl) (A := fun ds => ⟨fun _ => Cons.of [(63, temC), (15, pitC), (64, joC)], fun k => match k, ds with | 7, [.b no, .d ds, .i zn, .b zb, .f zf, .d cs, .d rs] => some { ι := Nat, pre := fun _ i => i ≤ ds.len, μ := fun i => ds.len - i, st := fun s i => famR s [(19, .one (.sc (.int .i64 (.sym ((i : Nat)))))), (3, .one (.sc (.osl 9 (s.nx - 1) (.lit 0) (.sym i))))] [1, 2, 17, 18] [(s.nx - 1, .orow 9 (cpT i (itRow ds)))] [1] } | _, _ => none, fun _ => none⟩) (fun _ _ => (cons_cons tem_ok (cons_cons pit_ok (cons_cons jo_ok cons_nil)))) (by kernel_rfl) ?_
  intro ds fr
  unfold sttS
  split
  · rename_i no ds zn zb zf cs rs
    refine kmp (q := itsOK ds →
 (no = true → Value.string (ByteArray.mk #[(110 : UInt8), (101 : UInt8), (118 : UInt8), (101 : UInt8), (114 : UInt8)]) = Value.string (stT no ds)) ∧
 (no = false →
 (((↑ds.len : Int) == (0 : Int)) = true →
 Value.string (ByteArray.mk #[(110 : UInt8), (111 : UInt8), (116 : UInt8), (104 : UInt8), (105 : UInt8), (110 : UInt8), (103 : UInt8)]) =
 Value.string (stT no ds)) ∧
 (((↑ds.len : Int) == (0 : Int)) = false →
 (∃ (i : Nat),
 i.le ds.len ∧
 (0 : Int) = (↑i : Int) ∧
 i = (0 : Nat) ∧
 Value.string (ByteArray.mk #[]) = Value.string (ByteArray.mk #[]) ∧
 ds.rows = ds.rows ∧
 (↑ds.len : Int) = (↑ds.len : Int) ∧
 List.map (itRow ds) (List.range i) = [] ∧
 no = no ∧
 ds.rows = ds.rows ∧ zn = zn ∧ zb = zb ∧ (∀ (o : Nat), o < (49 : Nat) → zf o = zf o) ∧ cs.rows = cs.rows ∧ rs.rows = rs.rows) ∧
 ∀ (i : Nat),
 i.le ds.len →
 (decide ((↑i : Int) < (↑ds.len : Int)) = true →
 ((0 : Int) ≤ (↑i : Int) ∧ (↑i : Int) < (↑ds.len : Int)) ∧
 nI (ds.el (↑i : Int).toNat (0 : Nat)).toI ∧
 nI (ds.el (↑i : Int).toNat ((0 : Nat) + (1 : Nat))).toI ∧
 i = (cpT i (itRow ds)).len ∧
 (i +
 ((D.l [[D.s (itT (ds.el (↑i : Int).toNat (0 : Nat)).toI (ds.el (↑i : Int).toNat ((0 : Nat) + (1 : Nat))).toI)]]).sub
 (0 : Nat) ((0 : Nat) + (1 : Nat))).len) *
 (16 : Nat) ≤
 (140737488355328 : Nat) ∧
 (0 : Nat) + (1 : Nat) ≤
 (D.l [[D.s (itT (ds.el (↑i : Int).toNat (0 : Nat)).toI (ds.el (↑i : Int).toNat ((0 : Nat) + (1 : Nat))).toI)]]).len ∧
 ∃ (j : Nat),
 j.le ds.len ∧
 ds.len - j < ds.len - i ∧
 IntKind.i64.wrap ((↑i : Int) + (1 : Int)) = (↑j : Int) ∧
 i +
 ((D.l
 [[D.s
 (itT (ds.el (↑i : Int).toNat (0 : Nat)).toI
 (ds.el (↑i : Int).toNat ((0 : Nat) + (1 : Nat))).toI)]]).sub
 (0 : Nat) ((0 : Nat) + (1 : Nat))).len =
 j ∧
 Value.string (ByteArray.mk #[]) = Value.string (ByteArray.mk #[]) ∧
 ds.rows = ds.rows ∧
 (↑ds.len : Int) = (↑ds.len : Int) ∧
 List.map (itRow ds) (List.range i) ++
 List.drop (0 : Nat)
 (List.take ((0 : Nat) + (1 : Nat))
 [[D.s
 (itT (ds.el (↑i : Int).toNat (0 : Nat)).toI
 (ds.el (↑i : Int).toNat ((0 : Nat) + (1 : Nat))).toI)]]) =
 List.map (itRow ds) (List.range j) ∧
 no = no ∧
 ds.rows = ds.rows ∧
 zn = zn ∧ zb = zb ∧ (∀ (o : Nat), o < (49 : Nat) → zf o = zf o) ∧ cs.rows = cs.rows ∧ rs.rows = rs.rows) ∧
 (decide ((↑i : Int) < (↑ds.len : Int)) = false →
 i = (cpT i (itRow ds)).len ∧
 (0 : Nat) < (cpT i (itRow ds)).len ∧
 (cpT i (itRow ds)).len ≤ (1000000 : Nat) ∧
 (Lib.join (List.map (fun (x : ByteArray) => x.data.toList) (txL (cpT i (itRow ds))))
 (ByteArray.mk #[(44 : UInt8), (32 : UInt8)]).data.toList).length ≤
 (140737488355328 : Nat) ∧
 Value.string
 (mkB
 (Lib.join (List.map (fun (x : ByteArray) => x.data.toList) (txL (cpT i (itRow ds))))
 (ByteArray.mk #[(44 : UInt8), (32 : UInt8)]).data.toList)) =
 Value.string (stT no ds))))) (by kernel_rfl) ?_
    intro hd
    have eN : csp = _ := rfl
    refine ⟨fun h => ?_, fun n0 => ⟨fun h => ?_, fun n1 => ⟨⟨0, Nat.zero_le _, rfl, rfl, rfl, rfl, rfl, rfl, rfl, rfl, rfl, rfl, fun _ _ => rfl, rfl, rfl⟩, fun i hi => ⟨fun hc => ?_, fun hc => ?_⟩⟩⟩⟩
    · subst h; rfl
    · subst n0
      have h0 : ds.len = 0 := by simpa using h
      rw [stT, if_neg (by decide), if_pos h0]
    · have hc : i < ds.len := by simpa using hc
      have h9 := hd.1
      obtain ⟨q1, q2⟩ := hd.2 i hc
      have ei : ((i : Nat) : Int).toNat = i := rfl
      rw [ei]
      have e1 : IntKind.i64.wrap ((i : Int) + 1) = ((i + 1 : Nat) : Int) := by rw [IntWalk.i64_in _ (by omega)]; omega
      refine ⟨⟨by omega, by omega⟩, q1, q2, (cpT_len _ _).symm, ?_, Nat.le_refl _, i + 1, hc, by omega, e1, rfl, rfl, rfl, rfl, ?_, rfl, rfl, rfl, rfl, fun _ _ => rfl, rfl, rfl⟩
      · show (i + 1) * 16 ≤ _
        omega
      · rw [List.range_succ, List.map_append]; rfl
    · subst n0
      have hi : i ≤ ds.len := hi
      have hc : ¬ i < ds.len := by simpa using hc
      obtain rfl : i = ds.len := by omega
      have h0 : ds.len ≠ 0 := by intro h; rw [h] at n1; exact absurd n1 (by decide)
      have h9 := hd.1
      have et : (txL (cpT ds.len (itRow ds))).map (fun x => x.data.toList) = (List.range ds.len).map fun i => (itR ds i).data.toList := by
        show (txL (cpT ds.len fun i => [.s (itR ds i)])).map _ = _
        rw [txL_cpT, List.map_map]; rfl
      rw [et, cpT_len]
      refine ⟨rfl, by omega, by omega, Nat.le_trans (st_join hd) (by omega), ?_⟩
      rw [stT, if_neg (by decide), if_neg h0]; rfl
  · trivial
end Go.Proofs.YtomodncooiddaaaDoor.Sx.Z
