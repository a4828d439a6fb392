/-
  strings.Builder: what the writing methods do.
  ast.Text, walked over whatever is known of Words.
  ast.Text, as the executor knows it.
  The laws' texts.
  What is right can be written; the words of statements, one by one.
  AstJoins: the words of a process's statements are those of each, one behind the other.
  AstJoins' rows: none has more bytes than the form reaches.
-/
import Derived.Test.YtomodncooiddaaaDoorLeaf
import Derived.Test.YtomodncooiddaaaDoorLs
import Derived.Lib.Strings
import Derived.Lib.Walk
import Derived.Lib.BufferWrite
import Derived.Lib.UnsafeStr
import Derived.Laws.MakeOwn
import Derived.Test.YtomodncooiddaaaDoorJo
import Derived.Test.YtomodncooiddaaaDoorSxDz
import Derived.Test.YtomodncooiddaaaDoorWc
namespace Go.Proofs.YtomodncooiddaaaDoor
open Go.RowKit

set_option maxHeartbeats 1000000 in
set_option maxRecDepth 100000 in
theorem cc_used (b : Nat) (w : World) (h0 : w.cell? ⟨b, 0, none⟩ = some (.pointer (some ⟨b, 0, none⟩))) :
    Calls Tryd.prog 60 #[.pointer (some ⟨b, 0, none⟩)] w fun e w' => e = .returned (.tuple #[]) ∧ w' = w := by
  obtain ⟨j, hj, _⟩ := Option.map_eq_some_iff.1 Tryd.Builder_Extra_169.sizeBuilder
  go_enter Tryd.func60, Tryd.ntmps60
  go_wp2
  rw [Lib.run_neq_ptr_same w _ Tryd.underlying121 hj]
  go_wp2
  go_end0
  exact ⟨rfl, rfl⟩

set_option maxHeartbeats 1000000 in
set_option maxRecDepth 100000 in
theorem cc_fresh (b : Nat) (w : World) (h0 : w.cell? ⟨b, 0, none⟩ = some (.pointer none)) (hsh : w.shape? b = some (124, 2)) (hfz : w.frozen? ⟨b, 0, none⟩ = false) :
    Calls Tryd.prog 60 #[.pointer (some ⟨b, 0, none⟩)] w fun e w' => e = .returned (.tuple #[]) ∧ w' = w.setCell ⟨b, 0, none⟩ (.pointer (some ⟨b, 0, none⟩)) := by
  obtain ⟨j, hj, hjs⟩ := Option.map_eq_some_iff.1 Tryd.Builder_Extra_169.sizeBuilder
  go_enter Tryd.func60, Tryd.ntmps60
  go_wp2
  rw [Lib.run_to_unsafe w ⟨b, 0, none⟩ Tryd.underlying121 Tryd.underlying170 hj (by rw [hjs]; decide) hsh (Nat.zero_lt_succ 1)]
  simp only [Result.andThen]
  rw [Oper.upon_value]
  go_wp2
  rw [run_callFunc_extern Tryd.func73 (by kernel_rfl) (by kernel_rfl) (by kernel_rfl) (e := Extern.AbiNoEscape.same) (by kernel_rfl)]
  rw [Lib.run_noEscape]
  simp only [Result.andThen]
  rw [Oper.upon_value]
  go_wp2
  rw [Lib.run_from_unsafe w ⟨b, 0, none⟩ Tryd.underlying170 Tryd.underlying121 hj hsh Tryd.Builder_Extra_169.liesBuilder]
  simp only [Result.andThen]
  rw [Oper.upon_value]
  go_wp2
  go_end0
  exact ⟨rfl, rfl⟩

abbrev Bld (B b : Nat) (p : Value) (bs : List Value) (w : World) : Prop := Lib.BuilderAt 124 5 B b p bs w
def me (b : Nat) : Value := .pointer (some ⟨b, 0, none⟩)

theorem cc_any (B b : Nat) (p : Value) (hp : p = .pointer none ∨ p = me b) (bs : List Value) (w : World) (h : Bld B b p bs w) :
    Calls Tryd.prog 60 #[.pointer (some ⟨b, 0, none⟩)] w fun e w' => e = .returned (.tuple #[]) ∧ Bld B b (me b) bs w' ∧ Below B w w' := by
  rcases hp with rfl | rfl
  · refine (cc_fresh b w h.cell0 h.shape h.frozen0).mono ?_
    rintro e w' ⟨rfl, rfl⟩
    exact ⟨rfl, h.used _, (Below.refl B w).setCell (p := ⟨b, 0, none⟩) h.1 _⟩
  · refine (cc_used b w h.cell0).mono ?_
    rintro e w' ⟨rfl, rfl⟩
    exact ⟨rfl, h, Below.refl B _⟩

set_option maxHeartbeats 2000000 in
set_option maxRecDepth 100000 in
theorem ws_any (B b : Nat) (p : Value) (hp : p = .pointer none ∨ p = me b) (bs : List Value) (s : ByteArray) (w : World) (h : Bld B b p bs w) (hlen : bs.length + s.size ≤ 140737488355328) (hBw : B ≤ w.heap.size) :
    Calls Tryd.prog 30 #[.pointer (some ⟨b, 0, none⟩), .string s] w fun e w' => e = .returned (.tuple #[.int .i64 s.size, .nilIface]) ∧ Bld B b (me b) (bs ++ Lib.strCells s) w' ∧ Below B w w' := by
  obtain ⟨i0, hi, hz0, hz1, hz2⟩ := info_parts Tryd.Builder_Extra_169.infoByte
  go_enter Tryd.func30, Tryd.ntmps30
  go_wp2_with (go_at_call 60; refine (cc_any B b p hp bs _ h).mono ?_)
  rintro e w1 ⟨rfl, h1, hb1⟩
  obtain ⟨hB, v, hbk, hown, hne⟩ := h1
  have s1 := hb1.size
  have c0 : w1.cell? ⟨b, 0, none⟩ = some (me b) := by rw [Lib.cell_of_heap hbk]; rfl
  have c1 : w1.cell? ⟨b, 1, none⟩ = some v := by rw [Lib.cell_of_heap hbk]; rfl
  unfold me at c0
  go_wp2_with (at_builtin; refine Lib.wpList_append_own_string _ rfl _ _ 122 9 rfl B 5 i0 Tryd.underlying122 Tryd.underlying9 hi hz0 hz1 hz2 _ _ _ rfl hown s rfl ?c3 ?c4 ?c5 ?_)
  case c3 => unfold maxLen; omega
  case c4 => omega
  case c5 => omega
  intro v' w2 hown' hgrow _
  have hlt : b < w1.heap.size := (Array.getElem?_eq_some_iff.1 hbk).1
  have hb2 : w2.heap[b]? = some (.cells #[me b, v] 124 (0, 0)) := by
    rw [hgrow.block b hlt (fun e => hne e.symm)]; exact hbk
  have d0 : w2.cell? ⟨b, 0, none⟩ = some (me b) := by rw [Lib.cell_of_heap hb2]; rfl
  have d1 : w2.cell? ⟨b, 1, none⟩ = some v := by rw [Lib.cell_of_heap hb2]; rfl
  have f1 : w2.frozen? ⟨b, 1, none⟩ = false := Lib.frozen_of_heap hb2 1
  unfold me at d0
  obtain ⟨ao, n', cap, rfl⟩ : ∃ ao n' cap, v' = .slice ao n' cap := by
    rcases hown'.2 with ⟨hv, _⟩ | ⟨g, cap, cur, hv, _⟩ <;> exact ⟨_, _, _, hv⟩
  go_wp2
  go_ret2
  refine ⟨rfl, ?_, ?_⟩
  · exact Lib.BuilderAt.put (T := 124) (e := 5) hB hb2 (bs' := bs ++ Lib.strCells s) (by simpa [Lib.strCells_length] using hown') Tryd.Builder_Extra_169.neB5
  · exact (hb1.grown hgrow (by omega) (fun k hk => (hown.lt k hk).1)).setCell (p := ⟨b, 1, none⟩) hB _

set_option maxHeartbeats 2000000 in
set_option maxRecDepth 100000 in
theorem wb_any (B b : Nat) (p : Value) (hp : p = .pointer none ∨ p = me b) (bs : List Value) (c : Int) (w : World) (h : Bld B b p bs w) (hlen : bs.length + 1 ≤ 140737488355328) (hBw : B ≤ w.heap.size) :
    Calls Tryd.prog 31 #[.pointer (some ⟨b, 0, none⟩), .int .u8 c] w fun e w' => e = .returned .nilIface ∧ Bld B b (me b) (bs ++ [.int .u8 c]) w' ∧ Below B w w' := by
  obtain ⟨i0, hi, hz0, hz1, hz2⟩ := info_parts Tryd.Builder_Extra_169.infoByte
  go_enter Tryd.func31, Tryd.ntmps31
  go_wp2_with (go_at_call 60; refine (cc_any B b p hp bs _ h).mono ?_)
  rintro e w1 ⟨rfl, h1, hb1⟩
  obtain ⟨hB, v, hbk, hown, hne⟩ := h1
  have s1 := hb1.size
  have c0 : w1.cell? ⟨b, 0, none⟩ = some (me b) := by rw [Lib.cell_of_heap hbk]; rfl
  have c1 : w1.cell? ⟨b, 1, none⟩ = some v := by rw [Lib.cell_of_heap hbk]; rfl
  unfold me at c0
  go_wp2_with (at_builtin; refine wpList_append_own _ rfl _ _ 122 rfl B 5 i0 (.int .u8 0) 1 1 Tryd.underlying122 hi hz0 hz1 hz2 rfl (by decide) _ _ _ rfl (hown.alloc _) ⟨w1.heap.size, 0, none⟩ 1 1 [.int .u8 c] rfl rfl ?c1 ?c2 ?c3 ?c4 ?c5 ?_)
  case c1 =>
    intro j u hj
    match j, hj with
    | 0, hj => simp at hj; subst hj; simp [Addr.add]
  case c2 => intro u hu; simp at hu; subst hu; rfl
  case c3 => unfold maxLen; omega
  case c4 => omega
  case c5 => simp; omega
  intro v' w2 hown' hgrow _
  have hlt : b < w1.heap.size := (Array.getElem?_eq_some_iff.1 hbk).1
  have hb2 : w2.heap[b]? = some (.cells #[me b, v] 124 (0, 0)) := by
    rw [hgrow.block b (by simp; omega) (fun e => hne e.symm), Lib.alloc_old w1 _ b hlt]; exact hbk
  have d0 : w2.cell? ⟨b, 0, none⟩ = some (me b) := by rw [Lib.cell_of_heap hb2]; rfl
  have d1 : w2.cell? ⟨b, 1, none⟩ = some v := by rw [Lib.cell_of_heap hb2]; rfl
  have f1 : w2.frozen? ⟨b, 1, none⟩ = false := Lib.frozen_of_heap hb2 1
  unfold me at d0
  obtain ⟨g, cap, rfl⟩ : ∃ g cap, v' = .slice (some ⟨g, 0, none⟩) (bs.length + 1) cap := by
    rcases hown'.2 with ⟨_, h0⟩ | ⟨g, cap, cur, hv, _⟩
    · omega
    · exact ⟨g, cap, hv⟩
  go_wp2
  go_ret
  refine ⟨rfl, ?_, ?_⟩
  · exact Lib.BuilderAt.put (T := 124) (e := 5) hB hb2 (bs' := bs ++ [.int .u8 c]) (by simpa using hown') Tryd.Builder_Extra_169.neB5
  · exact ((hb1.alloc (by omega) _).grown hgrow (by simp; omega) (fun k hk => (hown.lt k hk).1)).setCell (p := ⟨b, 1, none⟩) hB _
end Go.Proofs.YtomodncooiddaaaDoor

namespace Go.Proofs.YtomodncooiddaaaDoor
open Go.RowKit
/-- The words, each with a blank behind it. -/
def txC : List ByteArray → List Value
  | [] => []
  | s :: l => Lib.strCells s ++ (.int .u8 32 :: txC l)
theorem txC_append (l m : List ByteArray) : txC (l ++ m) = txC l ++ txC m := by
  induction l with
  | nil => rfl
  | cons s l ih => simp [txC, ih]
theorem txC_size (l : List ByteArray) (h : ∀ s, s ∈ l → s.size ≤ 1000000000) : (txC l).length ≤ l.length * 1000000001 := by
  induction l with
  | nil => simp [txC]
  | cons s l ih =>
    have h1 := h s (by simp)
    have h2 := ih fun t ht => h t (by simp [ht])
    simp only [txC, List.length_append, List.length_cons, Lib.strCells_length]
    omega
theorem below_cell {w w' : World} (hb : Below w.heap.size w w') {p : Addr} {v : Value} (h : w.cell? p = some v) : w'.cell? p = some v := by
  unfold World.cell? at h ⊢
  rcases Nat.lt_or_ge p.block w.heap.size with hlt | hge
  · rw [hb.block _ hlt]; exact h
  · rw [Array.getElem?_eq_none hge] at h; cases h
def txB (l : List ByteArray) : List UInt8 := (l.map fun s => s.data.toList ++ [32]).flatten

theorem txC_bytes (l : List ByteArray) : txC l = Lib.byteCells (txB l) := by
  induction l with
  | nil => rfl
  | cons s l ih =>
    have e : txB (s :: l) = s.data.toList ++ (32 :: txB l) := by simp [txB]
    rw [e, txC, ih]
    simp [Lib.byteCells, Lib.strCells]
theorem bld_new (w : World) : Bld w.heap.size w.heap.size (.pointer none) [] (w.alloc (.cells #[.pointer none, .slice none 0 0] 124)) :=
  ⟨Nat.le_refl _,   .slice none 0 0, by show (w.heap.push _)[w.heap.size]? = _; exact Array.getElem?_push_size, World.ownsRow_nil _ _ _ _, by intro h; cases h⟩

set_option maxRecDepth 100000 in
set_option maxHeartbeats 4000000 in
theorem text_walk (a b c : Value) (w : World) (Q : Ending → World → Prop)
    (hW : Calls Tryd.prog 8 #[.agg #[a, b, c]] (w.alloc (.cells #[a, b, c] 47)) fun e w2 =>
      ∃ (A : Option Addr) (n k : Nat) (er : Int) (l : List ByteArray), e = .returned (.tuple #[.slice A n k, .int .i64 er]) ∧ l.length = n ∧ n ≤ 2000 ∧ (∀ i (h : i < l.length), l[i].size ≤ 1000000000 ∧ ∃ p, A = some p ∧ w2.cell? (p.add i) = some (.string l[i])) ∧
      (er ≠ 0 → ∀ w', Below w2.heap.size w2 w' → Q (.returned (.tuple #[.string ⟨#[]⟩, .int .i64 er])) w') ∧ (er = 0 → ∀ w', Below w2.heap.size w2 w' → Q (.returned (.tuple #[.string ⟨(txB l).toArray⟩, .int .i64 0])) w')) :
    Calls Tryd.prog 12 #[.agg #[a, b, c]] w Q := by
  go_enter Tryd.func12, Tryd.ntmps12
  go_wp2_with (first | (go_at_call 8; refine hW.mono ?_) | fail)
  rintro e w2 ⟨A, n, k, er, l, rfl, hl, hn, hc, h1, h2⟩
  by_cases h0 : er = 0
  · subst h0
    have h2 := h2 rfl
    go_wp2_with fail
    have hsz : ∀ t, t ∈ l → t.size ≤ 1000000000 := fun t ht => by
      obtain ⟨i, hi, rfl⟩ := List.getElem_of_mem ht
      exact (hc i hi).1
    go_loopw [19] (fun i wr => ∃ (q : Nat) (p : Value), q ≤ n ∧ i = .int .i64 q ∧ (p = .pointer none ∨ p = me w2.heap.size) ∧ Bld w2.heap.size w2.heap.size p (txC (l.take q)) wr ∧ Below w2.heap.size w2 wr) (fun i _ => n - (intOf i).toNat)
    case atStart => exact ⟨0, .pointer none, Nat.zero_le _, rfl, .inl rfl, bld_new w2, (Below.refl _ _).alloc (Nat.le_refl _) _⟩
    case round =>
      obtain ⟨q, p, hq, rfl, hp, hB, hb2⟩ := hrel
      by_cases hlt : q < n
      · obtain ⟨hs1, pa, rfl, hcell⟩ := hc q (by omega)
        have hcell2 := below_cell hb2 hcell
        have hl2 : (txC (l.take q)).length ≤ 2000 * 1000000001 := by
          have := txC_size (l.take q) fun t ht => hsz t (List.mem_of_mem_take ht)
          have h3 : (l.take q).length ≤ 2000 := by rw [List.length_take]; omega
          exact Nat.le_trans this (Nat.mul_le_mul_right _ h3)
        have hbs := hb2.size
        go_wp2_with fail
        refine (ws_any w2.heap.size w2.heap.size p hp _ l[q] wr hB (by omega) hbs).mono ?_
        rintro e w3 ⟨rfl, hB3, hb3⟩
        have hbs3 := hb3.size
        go_wp2_with fail
        refine (wb_any w2.heap.size w2.heap.size _ (.inr rfl) _ 32 w3 hB3 (by rw [List.length_append, Lib.strCells_length]; omega) (by omega)).mono ?_
        rintro e w4 ⟨rfl, hB4, hb4⟩
        have et : txC (l.take q) ++ Lib.strCells l[q] ++ [.int .u8 32] = txC (l.take (q + 1)) := by
          rw [List.take_add_one, List.getElem?_eq_getElem (by omega), txC_append]
          simp [txC]
        rw [et] at hB4
        go_wp2_with fail
        go_roundw
        case rel => exact ⟨q + 1, me w2.heap.size, hlt, by go_num, .inr rfl, hB4, (hb2.trans hb3).trans hb4⟩
        case measure => simp [intOf]; omega
      · have hqn : q = n := by omega
        subst hqn
        have el : l.take q = l := by rw [← hl, List.take_length]
        rw [el, txC_bytes] at hB
        have hIs : Lib.IsBuilder 124 5 w2.heap.size w2.heap.size (Lib.byteCells (txB l)) wr := by
          rcases hp with rfl | rfl
          · exact .inl hB
          · exact .inr hB
        go_wp2_with (first | (go_at_call 32; refine (Tryd.Builder_String_any _ _ _ _ hIs hb2.size).mono ?_; rintro e w5 ⟨rfl, hb5⟩) | fail)
        exact h2 trivial w5 (hb2.trans hb5)
  · have h1 := h1 h0
    go_wp2_with fail
    exact Below.refl _ _
end Go.Proofs.YtomodncooiddaaaDoor

namespace Go.Proofs.YtomodncooiddaaaDoor.Sx.Z
open Go.RowKit
theorem fr_text {B : Nat} {ρ ρ' : Map} {w w1 w2 w' : World} {e f : Eff} (h : Fr B ρ ρ' w1 w2 e) (hnw : e.nw = []) (hk : ∀ id x, look e.st id = some x → x = .gone) (ha : Below w.heap.size w w1) (hb : Below w2.heap.size w2 w') (hf : f.st = e.st) (hfn : f.nw = []) : Fr B ρ ρ' w w' f := by
  have s1 := ha.size
  have s2 := h.below.size
  refine ⟨h.ext, fun id _ => h.only id (by rw [hnw]; rfl), (ha.mono (Nat.zero_le _)).trans (h.below.trans (hb.mono (Nat.zero_le _))), fun b hb1 hk1 => ?_, fun id x hx => ?_, fun id x hx => ?_, fun i j x y hx => ?_, fun b cs hc => ?_⟩
  · rw [hb.block b (by omega), h.keep b (by omega) (by rw [← hf]; exact hk1), ha.block b hb1]
  · rw [hf] at hx
    rw [hk id x hx]; trivial
  · rw [hfn] at hx; cases hx
  · rw [hfn] at hx; cases hx
  · rcases h.fz b cs hc with h1 | ⟨h1, ⟨T, z, h2⟩, _⟩
    · exact .inl h1
    · refine .inr ⟨?_, ⟨T, z, by rw [hb.block b (heap_lt h2)]; exact h2⟩, fun id x hx => by rw [hfn] at hx; cases hx⟩
      rw [hf]
      exact h1.imp (fun x => Nat.le_trans s1 x) id
theorem wh_below {w0 : W0} {w w' : World} {ρ : Map} {hp : Heap} (h : WH w0 ρ hp w) (hb : Below w.heap.size w w') : WH w0 ρ hp w' :=
  wh_step (e := { val := .junk, vc := [] }) h ⟨⟨fun _ _ h => h, fun _ _ => rfl, fun _ _ h => h, rfl, rfl⟩, fun _ _ => rfl, hb.mono (Nat.zero_le _), fun b hlt _ => hb.block b hlt, fun i x hx => (by cases hx), fun i x hx => (by cases hx), fun i j x y hx => (by cases hx), fun b cs hcs => .inl hcs⟩ (fun id x hx => (by cases hx)) (fun id x hx => (by cases hx))
theorem trel_str {f : Fz} {d : D} {v : Value} (h : TRel f .str d v) : v = .string d.toS := by cases h; rfl
/-- The text of words. -/
def txS (ch ru pr : D) : ByteArray := if wdE ch ru pr = 0 then ⟨(txB (wsL (wdA ch ru pr) (wdA ch ru pr).len)).toArray⟩ else ⟨#[]⟩
theorem wdA_len (ch ru pr : D) : (wdA ch ru pr).len ≤ 2000 := by
  unfold wdA
  split
  · rename_i h
    rcases Nat.lt_or_ge 2000 (wdD ch ru pr).len with h2 | h2
    · exfalso
      unfold wdE at h
      split at h
      · split at h
        · rw [if_pos (by omega)] at h; cases h
        · cases h
      · cases h
    · exact h2
  · exact Nat.zero_le _
noncomputable def txC : Con := fun hp _ args => match flP hp [lSy] args with
  | some ([.d ch, .d ru, .d pr], ps) => some { val := .tup [.sc (.raw (.string (txS ch ru pr))), .sc (.int .i64 (.sym (wdE ch ru pr)))], vc := ps ++ [SyOK ch ru pr, (syB ch ru pr = true → syN pr = true → SyF ch ru pr), ∀ i, i < (wdA ch ru pr).len → ((wdA ch ru pr).el i 0).toS.size ≤ 1000000000], st := kills (keepOwn hp (idsX hp args)) }
  | _ => none
theorem tx_ok : ConOK Tryd.prog 12 txC := by
  refine ⟨fun _ _ => by kernel_rfl, fun hp fr args e he hv w0 w ρ vs hw hfr ha => ?_, fun _ _ _ e h => nomatch (show (none : Option Eff) = some e from h)⟩
  unfold txC at he
  split at he
  · rename_i ch ru pr ps hds
    obtain rfl := Option.some.inj he
    obtain ⟨hp1, hp2⟩ := all_append.1 hv
    obtain ⟨q1, q2, q3, _⟩ := hp2
    obtain ⟨svs, h, ρ1, id, hun, _, _, hrel⟩ := unP_spec hw [lSy] args _ ps hds hp1 vs ha (ids := keepOwn hp (idsX hp args)) (fun i hi ho => keepOwn_mem.2 ⟨hi, ho⟩) 0
    obtain rfl : svs = _ := (congrArg Prod.fst (Option.some.inj hun)).symm
    match vs, hrel with
    | [x], ⟨hx, _⟩ =>
      obtain ⟨cs, rfl, hcs⟩ := hx
      obtain ⟨a, b, c, rfl⟩ : ∃ a b c, cs = #[a, b, c] := by
        rcases cs with ⟨l⟩
        have hl : 3 = l.length := hcs.1
        rcases l with _ | ⟨a, _ | ⟨b, _ | ⟨c, _ | ⟨d, l⟩⟩⟩⟩ <;> first | exact ⟨_, _, _, rfl⟩ | (simp at hl; done)
      have hal : Below w.heap.size w (w.alloc (.cells #[a, b, c] 47)) := (Below.refl _ _).alloc (Nat.le_refl _) _
      have hw1 := wh_below hw hal
      have hcall := wrd_ok.calls hp fr args { val := .tup [.sc (.rows 9 (wdA ch ru pr)), .sc (.int .i64 (.sym (wdE ch ru pr)))], vc := ps ++ [SyOK ch ru pr, (syB ch ru pr = true → syN pr = true → SyF ch ru pr)], st := kills (keepOwn hp (idsX hp args)) } (by unfold wrdC con; rw [hds]; rfl) (all_append.2 ⟨hp1, q1, q2, trivial⟩) w0 _ ρ [.agg #[a, b, c]] hw1 (fun _ _ h => by cases h) ha
      refine text_walk a b c w _ (hcall.mono ?_)
      rintro en w2 ⟨ρ2, v, rfl, ⟨vs2, rfl, hur⟩, hF⟩
      have hw2 := wh_step hw1 hF stOK_kills (fun _ _ h => by cases h)
      have hFr : ∀ w', Below w2.heap.size w2 w' → ∀ sv vc, Fr w0.heap.size ρ ρ2 w w' { val := sv, vc := vc, st := kills (keepOwn hp (idsX hp args)) } := fun w' hb sv vc => fr_text hF rfl (fun id x hx => (kills_look hx).1) hal hb rfl rfl
      obtain ⟨x1, x2, rfl, h1, h2⟩ : ∃ x1 x2, vs2 = #[x1, x2] ∧ TRel ρ2.fz (.slice 9) (wdA ch ru pr) x1 ∧ x2 = .int .i64 (wdE ch ru pr) := by
        rcases vs2 with ⟨l⟩
        rcases l with _ | ⟨x1, _ | ⟨x2, _ | ⟨x3, l⟩⟩⟩
        · exact hur.elim
        · exact hur.2.elim
        · exact ⟨x1, x2, rfl, hur.1, hur.2.1⟩
        · exact hur.2.2.elim
      subst h2
      obtain ⟨A, k, hx1, hcell⟩ : ∃ A k, x1 = .slice A (wdA ch ru pr).len k ∧ ∀ i, i < (wdA ch ru pr).len → ∃ p, A = some p ∧ w2.cell? (p.add i) = some (.string ((wdA ch ru pr).el i 0).toS) := by
        cases h1 with
        | nil _ _ h => exact ⟨none, 0, by rw [h], fun i hi => by omega⟩
        | empty _ _ a c h => exact ⟨some a, c, by rw [h], fun i hi => by omega⟩
        | slice _ _ b o c u hc hu hr =>
          refine ⟨some ⟨b, o, none⟩, c, rfl, fun i hi => ⟨_, rfl, ?_⟩⟩
          have e1 := hu i 0 hi (by decide)
          have e2 := hr i 0 .str hi rfl
          have e3 : u i 0 = .string ((wdA ch ru pr).el i 0).toS := trel_str e2
          rw [e3] at e1
          have e4 := Frozen.cell hw2.froz e1
          rw [show (eks 9).length = 1 from rfl, Nat.mul_one, Nat.add_zero] at e4
          have ea : (⟨b, o, none⟩ : Addr).add i = ⟨b, o + i, none⟩ := by
            by_cases h : i = 0
            · subst h; simp [Addr.add]
            · simp [Addr.add, h]
          rw [ea]; exact e4
      subst hx1
      have hL : (wsL (wdA ch ru pr) (wdA ch ru pr).len).length = (wdA ch ru pr).len := by unfold wsL; simp
      have hg : ∀ i (h : i < (wsL (wdA ch ru pr) (wdA ch ru pr).len).length), (wsL (wdA ch ru pr) (wdA ch ru pr).len)[i] = ((wdA ch ru pr).el i 0).toS := fun i h => by
        simp [wsL]
      refine ⟨A, (wdA ch ru pr).len, k, wdE ch ru pr, wsL (wdA ch ru pr) (wdA ch ru pr).len, rfl, hL, wdA_len _ _ _, fun i h => ?_, fun h0 w' hb => ?_, fun h0 w' hb => ?_⟩
      · rw [hg i h]
        exact ⟨q3 i (by omega), hcell i (by omega)⟩
      · refine ⟨ρ2, _, rfl, ⟨_, rfl, ?_, rfl, trivial⟩, hFr w' hb _ _⟩
        show Value.string _ = .string (txS ch ru pr)
        unfold txS
        rw [if_neg h0]
      · refine ⟨ρ2, _, rfl, ⟨_, rfl, ?_, ?_, trivial⟩, hFr w' hb _ _⟩
        · show Value.string _ = .string (txS ch ru pr)
          unfold txS
          rw [if_pos h0]
        · show Value.int .i64 0 = .int .i64 (wdE ch ru pr)
          rw [h0]
  · cases he
end Go.Proofs.YtomodncooiddaaaDoor.Sx.Z

namespace Go.Proofs.YtomodncooiddaaaDoor.Sx.Z
open Go.RowKit
def e0 : ByteArray := ByteArray.empty
theorem lt_one {i : Nat} {P : Nat → Prop} (h0 : P 0) (h : i < 1) : P i := by
  obtain rfl : i = 0 := by omega
  exact h0
theorem cpE_nil : cpE (.l []) = .l [] := by rw [cpE_eq]; rfl
theorem cpB_nil : cpB (.l []) = .l [] := by rw [cpB_eq]; rfl
theorem kS_nil : kS (.l []) := (kS_iff _).2 ⟨Nat.zero_le _, fun i h => absurd h (Nat.not_lt_zero i)⟩
theorem bS_nil : bS (.l []) := (bS_iff _).2 ⟨Nat.zero_le _, fun i h => absurd h (Nat.not_lt_zero i)⟩
theorem sOK_nil : sOK (.l []) := (sOK_iff _).2 ⟨Nat.zero_le _, fun i h => absurd h (Nat.not_lt_zero i)⟩
theorem amOK_nil : amOK (.l []) := ⟨Nat.zero_le _, fun i h => absurd h (Nat.not_lt_zero i)⟩
theorem bF_nil : bF (.l []) := (bF_iff _).2 ⟨Nat.zero_le _, fun i h => absurd h (Nat.not_lt_zero i)⟩
theorem amF_nil : amF (.l []) := ⟨Nat.zero_le _, fun i h => absurd h (Nat.not_lt_zero i)⟩
theorem kF_nil (i : Nat) : kF (.l []) i := by rw [kF, dif_neg (show ¬ i < (D.l []).len from Nat.not_lt_zero i)]; trivial
theorem wsL_wsR (l : List ByteArray) : wsL (wsR l) (wsR l).len = l := by
  rw [wsR_len]
  unfold wsL
  apply List.ext_getElem
  · rw [List.length_map, List.length_range]
  · intro i h1 h2
    rw [List.getElem_map, List.getElem_range, wsR_el h2]
theorem cat_wsR {l : List ByteArray} (h : l.length ≤ 2001) : cat (.l []) l = wsR l := by
  show D.l ((([] : List (List D)) ++ l.map sR).take 2001) = _
  rw [List.nil_append, List.take_of_length_le (by rw [List.length_map]; exact h)]; rfl
def tE1 : D := .l [[.i 2, .i 0, .s ⟨#[97]⟩, .l []], [.i 1, .i 1, .s ByteArray.empty, .l []]]
def tE2 : D := .l [[.i 4, .i 0, .s ByteArray.empty, tE1], [.i 1, .i 2, .s ByteArray.empty, .l []]]
def tB : D := .l [[.i 1, .s ⟨#[120]⟩, .s ByteArray.empty, .i 6, .i 0, .s ByteArray.empty, tE2, .i 0, .i 0, .i 0, .s ByteArray.empty, .l [], .i 0, .i 0, .s ByteArray.empty, .l [], .l [], .l [], .l []]]
def tP : D := .l [[.s ⟨#[112]⟩, .l [], tB]]
theorem cpE_1 : cpE tE1 = tE1 := by
  rw [cpE_eq]
  show D.l [[.i 2, .i 0, .s ⟨#[97]⟩, cpE (.l [])], [.i 1, .i 1, .s ByteArray.empty, cpE (.l [])]] = _
  rw [cpE_nil]; rfl
theorem cpE_2 : cpE tE2 = tE2 := by
  rw [cpE_eq]
  show D.l [[.i 4, .i 0, .s ByteArray.empty, cpE tE1], [.i 1, .i 2, .s ByteArray.empty, cpE (.l [])]] = _
  rw [cpE_nil, cpE_1]; rfl
theorem cpB_t : cpB tB = tB := by
  rw [cpB_eq]
  show D.l [[.i 1, .s ⟨#[120]⟩, .s ByteArray.empty, .i 6, .i 0, .s ByteArray.empty, cpE tE2, .i 0, .i 0, .i 0, .s ByteArray.empty, cpE (.l []), .i 0, .i 0, .s ByteArray.empty, cpE (.l []), cpB (.l []), cpB (.l []), .l []]] = _
  rw [cpE_nil, cpE_2, cpB_nil]; rfl
theorem cpP_t : cpP tP = tP := by
  show D.l [[.s ⟨#[112]⟩, .l [], cpB tB]] = _
  rw [cpB_t]; rfl
theorem kS_1 : kS tE1 := (kS_iff _).2 ⟨by decide, fun i h => by
  have : i < 2 := h
  obtain rfl | rfl : i = 0 ∨ i = 1 := by omega
  · exact kS_nil
  · exact kS_nil⟩
theorem kS_2 : kS tE2 := (kS_iff _).2 ⟨by decide, fun i h => by
  have : i < 2 := h
  obtain rfl | rfl : i = 0 ∨ i = 1 := by omega
  · exact kS_1
  · exact kS_nil⟩
theorem bS_t : bS tB := (bS_iff _).2 ⟨by decide, fun i h => lt_one (P := fun i => kS (tB.el i 6) ∧ kS (tB.el i 11) ∧ kS (tB.el i 15) ∧ bS (tB.el i 16) ∧ bS (tB.el i 17) ∧ (tB.el i 18).len * 56 ≤ 140737488355328 ∧ ∀ j, j < (tB.el i 18).len → bS ((tB.el i 18).el j 2)) ⟨kS_2, kS_nil, kS_nil, bS_nil, bS_nil, (by decide), fun j hj => absurd hj (Nat.not_lt_zero j)⟩ h⟩
theorem SyS_t : SyS (.l []) (.l []) tP := ⟨Nat.zero_le _, fun i h => absurd h (Nat.not_lt_zero i), Nat.zero_le _, fun i h => absurd h (Nat.not_lt_zero i), by decide, fun i h => lt_one (P := fun i => (tP.el i 1).len ≤ 1000000) (Nat.zero_le _) h, fun i h => lt_one (P := fun i => bS (tP.el i 2)) bS_t h⟩
theorem sOK_t : sOK tB := (sOK_iff _).2 ⟨by decide, fun i h => lt_one (P := fun i => sOK (tB.el i 16) ∧ sOK (tB.el i 17) ∧ amOK (tB.el i 18)) ⟨sOK_nil, sOK_nil, amOK_nil⟩ h⟩
theorem SyOK_t : SyOK (.l []) (.l []) tP := ⟨Nat.zero_le _, fun i h => absurd h (Nat.not_lt_zero i), Nat.zero_le _, fun i h => absurd h (Nat.not_lt_zero i), by decide, fun i h => lt_one (P := fun i => (tP.el i 1).len ≤ 3000000000000) (Nat.zero_le _) h, fun i h => lt_one (P := fun i => sOK (tP.el i 2)) sOK_t h⟩
theorem xF_1a : kF tE1 0 := by
  rw [kF_eq (by decide)]
  show xF 2 0 ⟨#[97]⟩ (.l [])
  exact ⟨fun h => absurd h (by decide), fun _ => (by decide), fun h => absurd h (by decide), fun h => absurd h (by decide)⟩
theorem xF_1b : kF tE1 1 := by
  rw [kF_eq (by decide)]
  show xF 1 1 ByteArray.empty (.l [])
  exact ⟨fun _ => ⟨by decide, by decide⟩, fun h => absurd h (by decide), fun h => absurd h (by decide), fun h => absurd h (by decide)⟩
theorem xF_2a : kF tE2 0 := by
  rw [kF_eq (by decide)]
  show xF 4 0 ByteArray.empty tE1
  exact ⟨fun h => absurd h (by decide), fun h => absurd h (by decide), fun h => absurd h (by decide), fun _ => ⟨rfl, xF_1a, xF_1b⟩⟩
theorem xF_2b : kF tE2 1 := by
  rw [kF_eq (by decide)]
  show xF 1 2 ByteArray.empty (.l [])
  exact ⟨fun _ => ⟨by decide, by decide⟩, fun h => absurd h (by decide), fun h => absurd h (by decide), fun h => absurd h (by decide)⟩
theorem xF_t : xF 6 0 ByteArray.empty tE2 := ⟨fun h => absurd h (by decide), fun h => absurd h (by decide), fun h => absurd h (by decide), fun _ => ⟨rfl, xF_2a, xF_2b⟩⟩
theorem bF_t : bF tB := (bF_iff _).2 ⟨by decide, fun i h => lt_one (P := stFE tB) (show stFF 1 ⟨#[120]⟩ ByteArray.empty (xF 6 0 ByteArray.empty tE2) _ _ _ _ from ⟨fun _ => ⟨(by unfold sz; decide), xF_t⟩, fun h => absurd h (by decide), fun h => absurd h (by decide), fun h => absurd h (by decide), fun h => absurd h (by decide), fun h => absurd h (by decide), fun h => absurd h (by decide)⟩) h⟩
theorem SyF_t : SyF (.l []) (.l []) tP := ⟨fun i h => absurd h (Nat.not_lt_zero i), fun i h => absurd h (Nat.not_lt_zero i), fun i h => lt_one (P := fun i => prF (tP.el i 0).toS (tP.el i 1) (tP.el i 2)) ⟨(by unfold sz; decide), Nat.zero_le _, fun i h => absurd h (Nat.not_lt_zero i), bF_t⟩ h⟩
theorem nm_x : nmB ⟨#[120]⟩ = true := by decide +kernel
theorem nm_a : nmB ⟨#[97]⟩ = true := by decide +kernel
theorem nm_p : nmB ⟨#[112]⟩ = true := by decide +kernel
theorem aE_1a : aE tE1 0 = true := by
  rw [aE_eq (by decide)]
  show nmB ⟨#[97]⟩ = true
  exact nm_a
theorem aE_1b : aE tE1 1 = true := by
  rw [aE_eq (by decide)]
  show nuB 1 = true
  decide
theorem aE_2a : aE tE2 0 = true := by
  rw [aE_eq (by decide)]
  show (decide _ && aE tE1 0 && aE tE1 1) = true
  rw [aE_1a, aE_1b]; rfl
theorem aE_2b : aE tE2 1 = true := by
  rw [aE_eq (by decide)]
  show nuB 2 = true
  decide
theorem aX_t : aX 6 0 ByteArray.empty tE2 = true := by
  rw [aX_bin (by decide), aE_2a, aE_2b]; rfl
theorem bA_t : bA tB = true := by
  rw [bA_eq]
  show ((nmB ⟨#[120]⟩ && aX 6 0 ByteArray.empty tE2) && true) = true
  rw [nm_x, aX_t]; rfl
theorem syB_t : syB (.l []) (.l []) tP = true := by
  show (true && (true && (((nmB ⟨#[112]⟩ && true) && bA tB) && true))) = true
  rw [nm_p, bA_t]; rfl
theorem kN_1 (i : Nat) (h : i < 2) (d : Int) (hd : d ≤ 24) : kN tE1 i d = true := by
  rw [kN_eq h]
  obtain rfl | rfl : i = 0 ∨ i = 1 := by omega
  · show xN 2 (.l []) d = true
    unfold xN xNb
    rw [if_neg (by omega), if_neg (by decide), if_neg (by decide)]
  · show xN 1 (.l []) d = true
    unfold xN xNb
    rw [if_neg (by omega), if_neg (by decide), if_neg (by decide)]
theorem xN_t : xN 6 tE2 0 = true := by
  show (kN tE2 0 1 && kN tE2 1 0) = true
  rw [kN_eq (by decide), kN_eq (by decide)]
  show ((kN tE1 0 1 && kN tE1 1 1) && true) = true
  rw [kN_1 0 (by decide) _ (by decide), kN_1 1 (by decide) _ (by decide)]; rfl
theorem stNE_t : stNE tB 0 0 = true := by
  unfold stNE stN stNF
  rw [if_pos (show (tB.el 0 0).toI = 1 ∨ (tB.el 0 0).toI = 4 from Or.inl rfl)]
  exact xN_t
theorem bN_t : bN tB 0 = true := by
  rw [bN_eq]
  exact allB_yes fun i h => lt_one (P := fun i => stNE tB 0 i = true) stNE_t h
theorem syN_t : syN tP = true := allB_yes fun i h => lt_one (P := fun i => prNE tP i = true) bN_t h
theorem it1 : itW 1 = ⟨#[49]⟩ := by decide +kernel
theorem it2 : itW 2 = ⟨#[50]⟩ := by decide +kernel
theorem xW_t : xW 6 0 ByteArray.empty tE2 = [⟨#[40]⟩, ⟨#[97]⟩, ⟨#[43]⟩, ⟨#[49]⟩, ⟨#[41]⟩, ⟨#[42]⟩, ⟨#[50]⟩] := by
  show (⟨#[40]⟩ :: (kW tE2 0 ++ [⟨#[41]⟩])) ++ (⟨#[42]⟩ :: kW tE2 1) = _
  rw [kW_eq (by decide), kW_eq (by decide)]
  show (⟨#[40]⟩ :: ((kW tE1 0 ++ (⟨#[43]⟩ :: kW tE1 1)) ++ [⟨#[41]⟩])) ++ (⟨#[42]⟩ :: [itW 2]) = _
  rw [kW_eq (by decide), kW_eq (by decide)]
  show (⟨#[40]⟩ :: (([⟨#[97]⟩] ++ (⟨#[43]⟩ :: [itW 1])) ++ [⟨#[41]⟩])) ++ (⟨#[42]⟩ :: [itW 2]) = _
  rw [it1, it2]; rfl
def tW : List ByteArray := [⟨#[112, 114, 111, 99]⟩, ⟨#[112]⟩, ⟨#[123]⟩, ⟨#[120]⟩, ⟨#[61]⟩, ⟨#[40]⟩, ⟨#[97]⟩, ⟨#[43]⟩, ⟨#[49]⟩, ⟨#[41]⟩, ⟨#[42]⟩, ⟨#[50]⟩, ⟨#[59]⟩, ⟨#[125]⟩]
theorem syW_t : syW (.l []) (.l []) tP = tW := by
  show [⟨#[112, 114, 111, 99]⟩, ⟨#[112]⟩, ⟨#[123]⟩] ++ ([] ++ (bW tB ++ [⟨#[125]⟩])) ++ [] = _
  rw [bW_eq]
  show [⟨#[112, 114, 111, 99]⟩, ⟨#[112]⟩, ⟨#[123]⟩] ++ ([] ++ (((⟨#[120]⟩ :: ⟨#[61]⟩ :: (xW 6 0 ByteArray.empty tE2 ++ [⟨#[59]⟩])) ++ []) ++ [⟨#[125]⟩])) ++ [] = _
  rw [xW_t]; rfl
theorem wdD_t : wdD (.l []) (.l []) tP = wsR tW := by
  unfold wdD
  rw [syW_t, cat_wsR (by decide)]
theorem wdE_t : wdE (.l []) (.l []) tP = 0 := wd0 syB_t syN_t (by rw [wdD_t, wsR_len]; decide)
theorem wdA_t : wdA (.l []) (.l []) tP = wsR tW := (if_pos wdE_t).trans wdD_t
theorem txS_t : (txS (.l []) (.l []) tP).toList = (ByteArray.mk #[112, 114, 111, 99, 32, 112, 32, 123, 32, 120, 32, 61, 32, 40, 32, 97, 32, 43, 32, 49, 32, 41, 32, 42, 32, 50, 32, 59, 32, 125, 32]).toList := by
  unfold txS
  rw [if_pos wdE_t, wdA_t, wsL_wsR]
  decide +kernel
theorem tW_sz : ∀ a ∈ tW, a.size ≤ 1000000000 := by decide +kernel
theorem wa_t (i : Nat) (h : i < (wdA (cpC (.l [])) (cpU (.l [])) (cpP tP)).len) : ((wdA (cpC (.l [])) (cpU (.l [])) (cpP tP)).el i 0).toS.size ≤ 1000000000 := by
  rw [cpP_t] at h ⊢
  have h : i < (wdA (.l []) (.l []) tP).len := h
  show ((wdA (.l []) (.l []) tP).el i 0).toS.size ≤ 1000000000
  rw [wdA_t] at h ⊢
  rw [wsR_len] at h
  rw [wsR_el h]
  exact tW_sz _ (List.getElem_mem h)
theorem we_t : wdE (cpC (.l [])) (cpU (.l [])) (cpP tP) = 0 := by
  rw [cpP_t]
  exact wdE_t
theorem wt_t : (txS (cpC (.l [])) (cpU (.l [])) (cpP tP)).toList = (ByteArray.mk #[112, 114, 111, 99, 32, 112, 32, 123, 32, 120, 32, 61, 32, 40, 32, 97, 32, 43, 32, 49, 32, 41, 32, 42, 32, 50, 32, 59, 32, 125, 32]).toList := by
  rw [cpP_t]
  exact txS_t
theorem fin_t {x : Int} {a b : List UInt8} (h : x = 0) (h2 : a = b) : (x == 0 && (a == b)) = true := by rw [h, h2]; simp
noncomputable def txtsS : FSpec := fun ds _ => match ds with
  | [] => some { val := .one (.sc (.bool (.lit true))), vc := [] }
  | _ => none
noncomputable def txtsC : Con := con [] txtsS
theorem txts_ok : ConOK Tryd.prog 10 txtsC := by
  refine fn_ob tt_ok mixed Tryd.func10 rfl (fun _ _ => by kernel_rfl) (A := fun ds => ⟨fun _ => Cons.of [(9, (conZ ycpC)), (12, txC)], fun _ => none, fun _ => none⟩) (fun _ _ => (cons_cons (conZ_ok ycp_ok) (cons_cons tx_ok cons_nil))) (by kernel_rfl) ?_
  intro ds fr
  unfold txtsS
  split
  · skip
    refine kmp (q := (0 : Nat) + (2 : Nat) ≤
 (D.l [[D.i (2 : Int), D.i (0 : Int), D.s (ByteArray.mk #[(97 : UInt8)]), D.l []], [D.i (1 : Int), D.i (1 : Int), D.s ByteArray.empty, D.l []]]).len ∧
 (0 : Nat) + (2 : Nat) ≤
 (D.l
 [[D.i (4 : Int), D.i (0 : Int), D.s ByteArray.empty,
 (D.l [[D.i (2 : Int), D.i (0 : Int), D.s (ByteArray.mk #[(97 : UInt8)]), D.l []], [D.i (1 : Int), D.i (1 : Int), D.s ByteArray.empty, D.l []]]).sub
 ((0 : Nat)) ((0 : Nat) + (2 : Nat))],
 [D.i (1 : Int), D.i (2 : Int), D.s ByteArray.empty, D.l []]]).len ∧
 (0 : Nat) + (1 : Nat) ≤
 (D.l
 [[D.i (1 : Int), D.s (ByteArray.mk #[(120 : UInt8)]), D.s ByteArray.empty, D.i (6 : Int), D.i (0 : Int), D.s ByteArray.empty,
 (D.l
 [[D.i (4 : Int), D.i (0 : Int), D.s ByteArray.empty,
 (D.l
 [[D.i (2 : Int), D.i (0 : Int), D.s (ByteArray.mk #[(97 : UInt8)]), D.l []],
 [D.i (1 : Int), D.i (1 : Int), D.s ByteArray.empty, D.l []]]).sub
 ((0 : Nat)) ((0 : Nat) + (2 : Nat))],
 [D.i (1 : Int), D.i (2 : Int), D.s ByteArray.empty, D.l []]]).sub
 ((0 : Nat)) ((0 : Nat) + (2 : Nat)),
 D.i (0 : Int), D.i (0 : Int), D.i (0 : Int), D.s ByteArray.empty, D.l [], D.i (0 : Int), D.i (0 : Int), D.s ByteArray.empty, D.l [], D.l [],
 D.l [], D.l []]]).len ∧
 SyS (D.l []) (D.l [])
 (D.l
 [[D.s (ByteArray.mk #[(112 : UInt8)]), D.l [],
 (D.l
 [[D.i (1 : Int), D.s (ByteArray.mk #[(120 : UInt8)]), D.s ByteArray.empty, D.i (6 : Int), D.i (0 : Int), D.s ByteArray.empty,
 (D.l
 [[D.i (4 : Int), D.i (0 : Int), D.s ByteArray.empty,
 (D.l
 [[D.i (2 : Int), D.i (0 : Int), D.s (ByteArray.mk #[(97 : UInt8)]), D.l []],
 [D.i (1 : Int), D.i (1 : Int), D.s ByteArray.empty, D.l []]]).sub
 ((0 : Nat)) ((0 : Nat) + (2 : Nat))],
 [D.i (1 : Int), D.i (2 : Int), D.s ByteArray.empty, D.l []]]).sub
 ((0 : Nat)) ((0 : Nat) + (2 : Nat)),
 D.i (0 : Int), D.i (0 : Int), D.i (0 : Int), D.s ByteArray.empty, D.l [], D.i (0 : Int), D.i (0 : Int), D.s ByteArray.empty, D.l [],
 D.l [], D.l [], D.l []]]).sub
 (0 : Nat) ((0 : Nat) + (1 : Nat))]]) ∧
 SyOK (cpC (D.l [])) (cpU (D.l []))
 (cpP
 (D.l
 [[D.s (ByteArray.mk #[(112 : UInt8)]), D.l [],
 (D.l
 [[D.i (1 : Int), D.s (ByteArray.mk #[(120 : UInt8)]), D.s ByteArray.empty, D.i (6 : Int), D.i (0 : Int), D.s ByteArray.empty,
 (D.l
 [[D.i (4 : Int), D.i (0 : Int), D.s ByteArray.empty,
 (D.l
 [[D.i (2 : Int), D.i (0 : Int), D.s (ByteArray.mk #[(97 : UInt8)]), D.l []],
 [D.i (1 : Int), D.i (1 : Int), D.s ByteArray.empty, D.l []]]).sub
 ((0 : Nat)) ((0 : Nat) + (2 : Nat))],
 [D.i (1 : Int), D.i (2 : Int), D.s ByteArray.empty, D.l []]]).sub
 ((0 : Nat)) ((0 : Nat) + (2 : Nat)),
 D.i (0 : Int), D.i (0 : Int), D.i (0 : Int), D.s ByteArray.empty, D.l [], D.i (0 : Int), D.i (0 : Int), D.s ByteArray.empty,
 D.l [], D.l [], D.l [], D.l []]]).sub
 (0 : Nat) ((0 : Nat) + (1 : Nat))]])) ∧
 (syB (cpC (D.l [])) (cpU (D.l []))
 (cpP
 (D.l
 [[D.s (ByteArray.mk #[(112 : UInt8)]), D.l [],
 (D.l
 [[D.i (1 : Int), D.s (ByteArray.mk #[(120 : UInt8)]), D.s ByteArray.empty, D.i (6 : Int), D.i (0 : Int), D.s ByteArray.empty,
 (D.l
 [[D.i (4 : Int), D.i (0 : Int), D.s ByteArray.empty,
 (D.l
 [[D.i (2 : Int), D.i (0 : Int), D.s (ByteArray.mk #[(97 : UInt8)]), D.l []],
 [D.i (1 : Int), D.i (1 : Int), D.s ByteArray.empty, D.l []]]).sub
 ((0 : Nat)) ((0 : Nat) + (2 : Nat))],
 [D.i (1 : Int), D.i (2 : Int), D.s ByteArray.empty, D.l []]]).sub
 ((0 : Nat)) ((0 : Nat) + (2 : Nat)),
 D.i (0 : Int), D.i (0 : Int), D.i (0 : Int), D.s ByteArray.empty, D.l [], D.i (0 : Int), D.i (0 : Int), D.s ByteArray.empty,
 D.l [], D.l [], D.l [], D.l []]]).sub
 (0 : Nat) ((0 : Nat) + (1 : Nat))]])) =
 true →
 syN
 (cpP
 (D.l
 [[D.s (ByteArray.mk #[(112 : UInt8)]), D.l [],
 (D.l
 [[D.i (1 : Int), D.s (ByteArray.mk #[(120 : UInt8)]), D.s ByteArray.empty, D.i (6 : Int), D.i (0 : Int), D.s ByteArray.empty,
 (D.l
 [[D.i (4 : Int), D.i (0 : Int), D.s ByteArray.empty,
 (D.l
 [[D.i (2 : Int), D.i (0 : Int), D.s (ByteArray.mk #[(97 : UInt8)]), D.l []],
 [D.i (1 : Int), D.i (1 : Int), D.s ByteArray.empty, D.l []]]).sub
 ((0 : Nat)) ((0 : Nat) + (2 : Nat))],
 [D.i (1 : Int), D.i (2 : Int), D.s ByteArray.empty, D.l []]]).sub
 ((0 : Nat)) ((0 : Nat) + (2 : Nat)),
 D.i (0 : Int), D.i (0 : Int), D.i (0 : Int), D.s ByteArray.empty, D.l [], D.i (0 : Int), D.i (0 : Int),
 D.s ByteArray.empty, D.l [], D.l [], D.l [], D.l []]]).sub
 (0 : Nat) ((0 : Nat) + (1 : Nat))]])) =
 true →
 SyF (cpC (D.l [])) (cpU (D.l []))
 (cpP
 (D.l
 [[D.s (ByteArray.mk #[(112 : UInt8)]), D.l [],
 (D.l
 [[D.i (1 : Int), D.s (ByteArray.mk #[(120 : UInt8)]), D.s ByteArray.empty, D.i (6 : Int), D.i (0 : Int), D.s ByteArray.empty,
 (D.l
 [[D.i (4 : Int), D.i (0 : Int), D.s ByteArray.empty,
 (D.l
 [[D.i (2 : Int), D.i (0 : Int), D.s (ByteArray.mk #[(97 : UInt8)]), D.l []],
 [D.i (1 : Int), D.i (1 : Int), D.s ByteArray.empty, D.l []]]).sub
 ((0 : Nat)) ((0 : Nat) + (2 : Nat))],
 [D.i (1 : Int), D.i (2 : Int), D.s ByteArray.empty, D.l []]]).sub
 ((0 : Nat)) ((0 : Nat) + (2 : Nat)),
 D.i (0 : Int), D.i (0 : Int), D.i (0 : Int), D.s ByteArray.empty, D.l [], D.i (0 : Int), D.i (0 : Int), D.s ByteArray.empty,
 D.l [], D.l [], D.l [], D.l []]]).sub
 (0 : Nat) ((0 : Nat) + (1 : Nat))]]))) ∧
 (∀ (i : Nat),
 i <
 (wdA (cpC (D.l [])) (cpU (D.l []))
 (cpP
 (D.l
 [[D.s (ByteArray.mk #[(112 : UInt8)]), D.l [],
 (D.l
 [[D.i (1 : Int), D.s (ByteArray.mk #[(120 : UInt8)]), D.s ByteArray.empty, D.i (6 : Int), D.i (0 : Int), D.s ByteArray.empty,
 (D.l
 [[D.i (4 : Int), D.i (0 : Int), D.s ByteArray.empty,
 (D.l
 [[D.i (2 : Int), D.i (0 : Int), D.s (ByteArray.mk #[(97 : UInt8)]), D.l []],
 [D.i (1 : Int), D.i (1 : Int), D.s ByteArray.empty, D.l []]]).sub
 ((0 : Nat)) ((0 : Nat) + (2 : Nat))],
 [D.i (1 : Int), D.i (2 : Int), D.s ByteArray.empty, D.l []]]).sub
 ((0 : Nat)) ((0 : Nat) + (2 : Nat)),
 D.i (0 : Int), D.i (0 : Int), D.i (0 : Int), D.s ByteArray.empty, D.l [], D.i (0 : Int), D.i (0 : Int),
 D.s ByteArray.empty, D.l [], D.l [], D.l [], D.l []]]).sub
 (0 : Nat) ((0 : Nat) + (1 : Nat))]]))).len →
 ((wdA (cpC (D.l [])) (cpU (D.l []))
 (cpP
 (D.l
 [[D.s (ByteArray.mk #[(112 : UInt8)]), D.l [],
 (D.l
 [[D.i (1 : Int), D.s (ByteArray.mk #[(120 : UInt8)]), D.s ByteArray.empty, D.i (6 : Int), D.i (0 : Int),
 D.s ByteArray.empty,
 (D.l
 [[D.i (4 : Int), D.i (0 : Int), D.s ByteArray.empty,
 (D.l
 [[D.i (2 : Int), D.i (0 : Int), D.s (ByteArray.mk #[(97 : UInt8)]), D.l []],
 [D.i (1 : Int), D.i (1 : Int), D.s ByteArray.empty, D.l []]]).sub
 ((0 : Nat)) ((0 : Nat) + (2 : Nat))],
 [D.i (1 : Int), D.i (2 : Int), D.s ByteArray.empty, D.l []]]).sub
 ((0 : Nat)) ((0 : Nat) + (2 : Nat)),
 D.i (0 : Int), D.i (0 : Int), D.i (0 : Int), D.s ByteArray.empty, D.l [], D.i (0 : Int), D.i (0 : Int),
 D.s ByteArray.empty, D.l [], D.l [], D.l [], D.l []]]).sub
 (0 : Nat) ((0 : Nat) + (1 : Nat))]]))).el
 i (0 : Nat)).toS.size ≤
 (1000000000 : Nat)) ∧
 (wdE (cpC (D.l [])) (cpU (D.l []))
 (cpP
 (D.l
 [[D.s (ByteArray.mk #[(112 : UInt8)]), D.l [],
 (D.l
 [[D.i (1 : Int), D.s (ByteArray.mk #[(120 : UInt8)]), D.s ByteArray.empty, D.i (6 : Int), D.i (0 : Int), D.s ByteArray.empty,
 (D.l
 [[D.i (4 : Int), D.i (0 : Int), D.s ByteArray.empty,
 (D.l
 [[D.i (2 : Int), D.i (0 : Int), D.s (ByteArray.mk #[(97 : UInt8)]), D.l []],
 [D.i (1 : Int), D.i (1 : Int), D.s ByteArray.empty, D.l []]]).sub
 ((0 : Nat)) ((0 : Nat) + (2 : Nat))],
 [D.i (1 : Int), D.i (2 : Int), D.s ByteArray.empty, D.l []]]).sub
 ((0 : Nat)) ((0 : Nat) + (2 : Nat)),
 D.i (0 : Int), D.i (0 : Int), D.i (0 : Int), D.s ByteArray.empty, D.l [], D.i (0 : Int), D.i (0 : Int),
 D.s ByteArray.empty, D.l [], D.l [], D.l [], D.l []]]).sub
 (0 : Nat) ((0 : Nat) + (1 : Nat))]])) ==
 (0 : Int) &&
 (txS (cpC (D.l [])) (cpU (D.l []))
 (cpP
 (D.l
 [[D.s (ByteArray.mk #[(112 : UInt8)]), D.l [],
 (D.l
 [[D.i (1 : Int), D.s (ByteArray.mk #[(120 : UInt8)]), D.s ByteArray.empty, D.i (6 : Int), D.i (0 : Int), D.s ByteArray.empty,
 (D.l
 [[D.i (4 : Int), D.i (0 : Int), D.s ByteArray.empty,
 (D.l
 [[D.i (2 : Int), D.i (0 : Int), D.s (ByteArray.mk #[(97 : UInt8)]), D.l []],
 [D.i (1 : Int), D.i (1 : Int), D.s ByteArray.empty, D.l []]]).sub
 ((0 : Nat)) ((0 : Nat) + (2 : Nat))],
 [D.i (1 : Int), D.i (2 : Int), D.s ByteArray.empty, D.l []]]).sub
 ((0 : Nat)) ((0 : Nat) + (2 : Nat)),
 D.i (0 : Int), D.i (0 : Int), D.i (0 : Int), D.s ByteArray.empty, D.l [], D.i (0 : Int), D.i (0 : Int),
 D.s ByteArray.empty, D.l [], D.l [], D.l [], D.l []]]).sub
 (0 : Nat) ((0 : Nat) + (1 : Nat))]]))).toList ==
 (ByteArray.mk #[(112 : UInt8), (114 : UInt8), (111 : UInt8), (99 : UInt8), (32 : UInt8), (112 : UInt8), (32 : UInt8), (123 : UInt8), (32 : UInt8), (120 : UInt8), (32 : UInt8), (61 : UInt8), (32 : UInt8), (40 : UInt8), (32 : UInt8), (97 : UInt8), (32 : UInt8), (43 : UInt8), (32 : UInt8), (49 : UInt8), (32 : UInt8), (41 : UInt8), (32 : UInt8), (42 : UInt8), (32 : UInt8), (50 : UInt8), (32 : UInt8), (59 : UInt8), (32 : UInt8), (125 : UInt8), (32 : UInt8)]).toList) =
 true) (by kernel_rfl) ?_
    have hcp : cpP tP = tP := cpP_t
    refine ⟨by decide, by decide, by decide, SyS_t, ?_, fun _ _ => ?_, wa_t, fin_t we_t wt_t⟩
    · show SyOK (.l []) (.l []) (cpP tP)
      rw [hcp]; exact SyOK_t
    · show SyF (.l []) (.l []) (cpP tP)
      rw [hcp]; exact SyF_t
  · trivial
end Go.Proofs.YtomodncooiddaaaDoor.Sx.Z

namespace Go.Proofs.YtomodncooiddaaaDoor.Sx.Z
open Go.RowKit
theorem allB_get {n : Nat} {f : Nat → Bool} (h : allB n f = true) {i : Nat} (hi : i < n) : f i = true := by
  unfold allB at h
  exact List.all_eq_true.1 h i (List.mem_range.2 hi)
theorem nm_sz {s : ByteArray} (h : nmB s = true) : sz s := by
  unfold nmB at h
  simp only [Bool.and_eq_true, Bool.not_eq_true', decide_eq_false_iff_not] at h
  have := h.1
  unfold sz
  omega
theorem nu_nI {n : Int} (h : nuB n = true) : nI n := by
  unfold nuB at h
  simp only [Bool.and_eq_true, decide_eq_true_eq] at h
  exact ⟨by omega, by omega⟩
theorem xF_ofs {k n : Int} {s : ByteArray} {d : D} (ih : ∀ j, j < d.len → aE d j = true → kF d j) (h : aX k n s d = true) : xF k n s d := by
  refine ⟨fun e => ?_, fun e => ?_, fun e => ?_, fun e => ?_⟩
  · subst e
    exact nu_nI h
  · subst e
    exact nm_sz h
  · have := (aX_kids h).1 e
    exact ⟨this.1, ih 0 (by omega) this.2⟩
  · have := (aX_kids h).2 e
    exact ⟨this.1, ih 0 (by omega) this.2.1, ih 1 (by omega) this.2.2⟩
theorem kF_all : ∀ (m : Nat) (d : D), SizeOf.sizeOf d ≤ m → ∀ i, i < d.len → aE d i = true → kF d i := by
  intro m
  induction m with
  | zero =>
    intro d h i hi
    have := lel_lt (j := 3) hi
    omega
  | succ m ih =>
    intro d h i hi ha
    have := lel_lt (j := 3) hi
    rw [kF_eq hi]
    rw [aE_eq hi] at ha
    exact xF_ofs (fun j hj h2 => ih _ (by omega) j hj h2) ha
theorem xF_of {k n : Int} {s : ByteArray} {d : D} (h : aX k n s d = true) : xF k n s d := xF_ofs (fun j hj h2 => kF_all _ d (Nat.le_refl _) j hj h2) h
theorem cF_of {op lk ln rk rn : Int} {ls rs : ByteArray} {ld rd : D} (h : aC op lk ln ls ld rk rn rs rd = true) : cF lk ln ls ld rk rn rs rd := ⟨xF_of (aC_two h).1, xF_of (aC_two h).2⟩
theorem and3 {a b c : Bool} (h : (a && b && c) = true) : a = true ∧ b = true ∧ c = true := by
  simp only [Bool.and_eq_true] at h
  exact ⟨h.1.1, h.1.2, h.2⟩
theorem stFF_of {k : Int} {nm tg : ByteArray} {e c b el a : Bool} {al : Int} {E C B EL A : Prop} (h : aStF k nm tg e c b el al a = true) (he : e = true → E) (hc : c = true → C) (hb : b = true → B) (hl : el = true → EL) (ha : a = true → A) : stFF k nm tg E C B EL A := by
  refine ⟨fun q => ?_, fun q => ?_, fun q => ?_, fun q => ?_, fun q => ?_, fun q => ?_, fun q => ?_⟩ <;> subst q
  · have h : (nmB nm && e) = true := h
    simp only [Bool.and_eq_true] at h
    exact ⟨nm_sz h.1, he h.2⟩
  · obtain ⟨x, y, z⟩ := and3 (show (c && b && el) = true from h)
    exact ⟨hc x, hb y, hl z⟩
  · have h : (c && b) = true := h
    simp only [Bool.and_eq_true] at h
    exact ⟨hc h.1, hb h.2⟩
  · obtain ⟨x, y, z⟩ := and3 (show (nmB nm && nmB tg && e) = true from h)
    exact ⟨nm_sz x, nm_sz y, he z⟩
  · obtain ⟨x, _, z⟩ := and3 (show (nmB nm && decide (al > 0) && a) = true from h)
    exact ⟨nm_sz x, ha z⟩
  · exact hc h
  · exact nm_sz h
theorem bF_all : ∀ (m : Nat) (d : D), SizeOf.sizeOf d ≤ m → bA d = true → sOK d → bF d := by
  intro m
  induction m with
  | zero =>
    intro d h ha hs
    rw [bF_iff]
    refine ⟨((sOK_iff d).1 hs).1, fun i hi => ?_⟩
    have := lel_lt (j := 3) hi
    omega
  | succ m ih =>
    intro d h ha hs
    rw [bF_iff]
    obtain ⟨h1, h2⟩ := (sOK_iff d).1 hs
    refine ⟨h1, fun i hi => ?_⟩
    obtain ⟨s1, s2, s3, s4⟩ := h2 i hi
    have l1 := lel_lt (j := 16) hi
    have l2 := lel_lt (j := 17) hi
    have l3 := lel_lt (j := 18) hi
    rw [bA_eq] at ha
    have hE : stE d i = true := allB_get ha hi
    refine stFF_of hE (fun h => xF_of h) (fun h => cF_of h) (fun h => ih _ (by omega) h s1) (fun h => ih _ (by omega) h s2) (fun h => ⟨s3, fun j hj => ?_⟩)
    have hj2 : arE (d.el i 18) j = true := allB_get h hj
    obtain ⟨x, y, z⟩ := and3 hj2
    have l4 := lel_lt (j := 2) hj
    exact ⟨nm_sz x, nm_sz y, ih _ (by omega) z (s4 j hj)⟩
theorem bF_of {d : D} (h : bA d = true) (hs : sOK d) : bF d := bF_all _ d (Nat.le_refl _) h hs
theorem cpTo_elJ {n i j : Nat} {f : Nat → List D} (h : i < n) : (cpTo n f).el i j = (f i).getD j (.i 0) := by
  show (((List.range n).map f).getD i []).getD j (.i 0) = _
  rw [List.getD_eq_getElem?_getD (l := (List.range n).map f), List.getElem?_map, List.getElem?_range h]; rfl
theorem sOK_cpA : ∀ (m : Nat) (d : D), SizeOf.sizeOf d ≤ m → bS d → sOK (cpB d) := by
  intro m
  induction m with
  | zero =>
    intro d h hs
    obtain ⟨h1, h2⟩ := (bS_iff d).1 hs
    rw [sOK_iff, cpB_eq, cpTo_len]
    refine ⟨by omega, fun i hi => ?_⟩
    have := lel_lt (j := 3) hi
    omega
  | succ m ih =>
    intro d h hs
    obtain ⟨h1, h2⟩ := (bS_iff d).1 hs
    rw [sOK_iff, cpB_eq, cpTo_len]
    refine ⟨by omega, fun i hi => ?_⟩
    obtain ⟨_, _, _, b1, b2, am, ab⟩ := h2 i hi
    have l1 := lel_lt (j := 16) hi
    have l2 := lel_lt (j := 17) hi
    have l3 := lel_lt (j := 18) hi
    rw [cpTo_elJ hi, cpTo_elJ hi, cpTo_elJ hi]
    refine ⟨ih (d.el i 16) (by omega) b1, ih (d.el i 17) (by omega) b2, ?_⟩
    show amOK (cpTo (d.el i 18).len (arR (d.el i 18)))
    unfold amOK
    rw [cpTo_len]
    refine ⟨by omega, fun j hj => ?_⟩
    have l4 := lel_lt (j := 2) hj
    rw [cpTo_elJ hj]
    exact ih ((d.el i 18).el j 2) (by omega) (ab j hj)
theorem sOK_cp {d : D} (h : bS d) : sOK (cpB d) := sOK_cpA _ d (Nat.le_refl _) h
def pJ (B : D) : D := .l [[.s ⟨#[112]⟩, .l [], B]]
theorem SyS_J {B : D} (h : bS B) : SyS (.l []) (.l []) (pJ B) := ⟨Nat.zero_le _, fun i h => absurd h (Nat.not_lt_zero i), Nat.zero_le _, fun i h => absurd h (Nat.not_lt_zero i), (show 1 ≤ 1000000 by decide), fun i hi => lt_one (P := fun i => ((pJ B).el i 1).len ≤ 1000000) (Nat.zero_le _) hi, fun i hi => lt_one (P := fun i => bS ((pJ B).el i 2)) h hi⟩
theorem SyOK_J {B : D} (h : sOK B) : SyOK (.l []) (.l []) (pJ B) := ⟨Nat.zero_le _, fun i h => absurd h (Nat.not_lt_zero i), Nat.zero_le _, fun i h => absurd h (Nat.not_lt_zero i), (show 1 ≤ 3000000000000 by decide), fun i hi => lt_one (P := fun i => ((pJ B).el i 1).len ≤ 3000000000000) (Nat.zero_le _) hi, fun i hi => lt_one (P := fun i => sOK ((pJ B).el i 2)) h hi⟩
theorem SyF_J {B : D} (h : bF B) : SyF (.l []) (.l []) (pJ B) := ⟨fun i h => absurd h (Nat.not_lt_zero i), fun i h => absurd h (Nat.not_lt_zero i), fun i hi => lt_one (P := fun i => prF ((pJ B).el i 0).toS ((pJ B).el i 1) ((pJ B).el i 2)) ⟨nm_sz nm_p, Nat.zero_le _, fun i h => absurd h (Nat.not_lt_zero i), h⟩ hi⟩
theorem syB_J (B : D) : syB (.l []) (.l []) (pJ B) = bA B := by
  show (true && (true && (((nmB ⟨#[112]⟩ && true) && bA B) && true))) = bA B
  rw [nm_p]
  simp
theorem syN_J (B : D) : syN (pJ B) = bN B 0 := by
  show (bN B 0 && true) = bN B 0
  rw [Bool.and_true]
def hdJ : List ByteArray := [⟨#[112, 114, 111, 99]⟩, ⟨#[112]⟩, ⟨#[123]⟩]
theorem syW_J (B : D) : syW (.l []) (.l []) (pJ B) = hdJ ++ (bW B ++ [⟨#[125]⟩]) := by
  have e : syW (.l []) (.l []) (pJ B) = (hdJ ++ ([] ++ (bW B ++ [⟨#[125]⟩])) : List ByteArray) ++ [] := rfl
  rw [e, List.append_nil, List.nil_append]
theorem syW_Jl (B : D) : (syW (.l []) (.l []) (pJ B)).length = (bW B).length + 4 := by
  rw [syW_J, List.length_append, List.length_append]
  show 3 + (_ + 1) = _
  omega
theorem wdJ_len (B : D) : (wdD (.l []) (.l []) (pJ B)).len = min 2001 ((bW B).length + 4) := by
  unfold wdD
  rw [cat_len, syW_Jl]
  show min 2001 (0 + _) = _
  rw [Nat.zero_add]
def eJ (B : D) : Int := wdE (.l []) (.l []) (pJ B)
theorem eJ_0 (B : D) : eJ B = 0 ↔ bA B = true ∧ bN B 0 = true ∧ (bW B).length + 4 ≤ 2000 := by
  unfold eJ wdE
  rw [syB_J, syN_J, wdJ_len]
  constructor
  · intro h
    split at h
    · rename_i h1
      split at h
      · rename_i h2
        split at h
        · cases h
        · rename_i h3
          exact ⟨h1, h2, by omega⟩
      · cases h
    · cases h
  · rintro ⟨h1, h2, h3⟩
    rw [if_pos h1, if_pos h2, if_neg (by omega)]
theorem eJ_4 {B : D} (h1 : bA B = true) (h2 : bN B 0 = true) (h3 : ¬ (bW B).length + 4 ≤ 2000) : eJ B = 4 := by
  unfold eJ wdE
  rw [syB_J, syN_J, wdJ_len, if_pos h1, if_pos h2, if_pos (by omega)]
def wJ (B : D) : D := wdA (.l []) (.l []) (pJ B)
theorem cat_wsRJ {l : List ByteArray} (h : l.length ≤ 2001) : cat (.l []) l = wsR l := by
  unfold cat wsR
  show D.l (([] ++ l.map sR).take 2001) = _
  rw [List.nil_append, List.take_of_length_le (by rw [List.length_map]; exact h)]
theorem wJ_eq {B : D} (h : eJ B = 0) : wJ B = wsR (hdJ ++ (bW B ++ [⟨#[125]⟩])) := by
  have h3 := ((eJ_0 B).1 h).2.2
  unfold wJ wdA
  rw [if_pos (show wdE (.l []) (.l []) (pJ B) = 0 from h)]
  unfold wdD
  rw [cat_wsRJ (by rw [syW_Jl]; omega), syW_J]
theorem wJ_len {B : D} (h : eJ B = 0) : (wJ B).len = (bW B).length + 4 := by
  rw [wJ_eq h, wsR_len, List.length_append, List.length_append]
  show 3 + (_ + 1) = _
  omega
theorem wJ_el {B : D} (h : eJ B = 0) {q : Nat} {x : ByteArray} (hx : (bW B)[q]? = some x) : ((wJ B).el (3 + q) 0).toS = x := by
  have hl : (hdJ ++ (bW B ++ [⟨#[125]⟩]))[3 + q]? = some x := by
    rw [List.getElem?_append_right (show hdJ.length ≤ 3 + q by show 3 ≤ 3 + q; omega)]
    have : 3 + q - hdJ.length = q := by show 3 + q - 3 = q; omega
    rw [this, List.getElem?_append_left (List.getElem?_eq_some_iff.1 hx).1, hx]
  obtain ⟨h1, h2⟩ := List.getElem?_eq_some_iff.1 hl
  rw [wJ_eq h, wsR_el h1, h2]
/-- The i-th statement alone. -/
def oJ (l : D) (i : Nat) : D := cpB (l.sub i (i + 1))
theorem row_eq {l : D} {i : Nat} (h : i < l.len) (j : Nat) : (oJ l i).el 0 j = (cpB l).el i j := by
  have hl : (l.sub i (i + 1)).len = 1 := by rw [D.sub_len _ (by omega)]; omega
  have e : ∀ j, (l.sub i (i + 1)).el 0 j = l.el i j := fun j => by rw [D.sub_el _ (by omega), Nat.add_zero]
  unfold oJ
  rw [cpB_eq, cpB_eq, cpTo_elJ h, cpTo_elJ (by omega)]
  unfold rSt
  simp only [e]
theorem oJ_len {l : D} {i : Nat} (h : i < l.len) : (oJ l i).len = 1 := by
  unfold oJ
  rw [cpB_eq, cpTo_len, D.sub_len _ (by omega)]; omega
theorem cpB_len (l : D) : (cpB l).len = l.len := by rw [cpB_eq, cpTo_len]
theorem oA {l : D} {i : Nat} (h : i < l.len) : bA (oJ l i) = stE (cpB l) i := by
  rw [bA_eq, oJ_len h]
  show (stE (oJ l i) 0 && true) = _
  rw [Bool.and_true]
  unfold stE
  simp only [row_eq h]
theorem oN {l : D} {i : Nat} (h : i < l.len) : bN (oJ l i) 0 = stNE (cpB l) 0 i := by
  rw [bN_eq, oJ_len h]
  show (stNE (oJ l i) 0 0 && true) = _
  rw [Bool.and_true]
  unfold stNE
  simp only [row_eq h]
theorem oW {l : D} {i : Nat} (h : i < l.len) : bW (oJ l i) = stWE (cpB l) i := by
  rw [bW_eq, oJ_len h]
  have : catTo 1 (stWE (oJ l i)) = stWE (oJ l i) 0 := by
    rw [catTo_succ]; rfl
  rw [this]
  unfold stWE
  simp only [row_eq h]
def ofJ (l : D) (i : Nat) : Nat := (catTo i (stWE (cpB l))).length
theorem ofJ_succ (l : D) (i : Nat) (h : i < l.len) : ofJ l (i + 1) = ofJ l i + (bW (oJ l i)).length := by
  unfold ofJ
  rw [catTo_succ, List.length_append, oW h]
theorem ofJ_le (l : D) {i n : Nat} (h : i ≤ n) : ofJ l i ≤ ofJ l n := by
  induction n with
  | zero =>
    have : i = 0 := by omega
    rw [this]; exact Nat.le_refl _
  | succ n ih =>
    by_cases he : i = n + 1
    · rw [he]; exact Nat.le_refl _
    · have := ih (by omega)
      unfold ofJ at this ⊢
      rw [catTo_succ, List.length_append]; omega
theorem all_len (l : D) : (bW (cpB l)).length = ofJ l l.len := by
  rw [bW_eq, cpB_len]; rfl
theorem f_ne {l : D} {i : Nat} (hi : i < l.len) (h : eJ (oJ l i) ≠ 0) : eJ (cpB l) ≠ 0 := by
  intro h0
  obtain ⟨h1, h2, h3⟩ := (eJ_0 _).1 h0
  apply h
  rw [bA_eq, cpB_len] at h1
  rw [bN_eq, cpB_len] at h2
  rw [all_len] at h3
  have := ofJ_le l (show i + 1 ≤ l.len from hi)
  rw [ofJ_succ l i hi] at this
  exact (eJ_0 _).2 ⟨(oA hi).trans (allB_get h1 hi), (oN hi).trans (allB_get h2 hi), by omega⟩
theorem allB_mk {n : Nat} {f : Nat → Bool} (h : ∀ i, i < n → f i = true) : allB n f = true := by
  unfold allB
  exact List.all_eq_true.2 fun i hi => h i (List.mem_range.1 hi)
theorem e_04 {l : D} (h : ∀ i, i < l.len → eJ (oJ l i) = 0) : (eJ (cpB l) = 0 ∧ ofJ l l.len + 4 ≤ 2000) ∨ (eJ (cpB l) = 4 ∧ ofJ l l.len + 4 > 2000) := by
  have h1 : bA (cpB l) = true := by
    rw [bA_eq, cpB_len]
    exact allB_mk fun i hi => (oA hi).symm.trans ((eJ_0 _).1 (h i hi)).1
  have h2 : bN (cpB l) 0 = true := by
    rw [bN_eq, cpB_len]
    exact allB_mk fun i hi => (oN hi).symm.trans ((eJ_0 _).1 (h i hi)).2.1
  by_cases h3 : (bW (cpB l)).length + 4 ≤ 2000
  · exact .inl ⟨(eJ_0 _).2 ⟨h1, h2, h3⟩, by rw [← all_len]; exact h3⟩
  · exact .inr ⟨eJ_4 h1 h2 h3, by rw [← all_len]; omega⟩
theorem catTo_get {f : Nat → List ByteArray} {i q : Nat} (hq : q < (f i).length) : ∀ n, i < n → (catTo n f)[(catTo i f).length + q]? = (f i)[q]? := by
  intro n
  induction n with
  | zero => intro h; omega
  | succ n ih =>
    intro h
    rw [catTo_succ]
    by_cases he : i = n
    · subst he
      rw [List.getElem?_append_right (by omega)]
      congr 1; omega
    · have h2 := ih (by omega)
      have h3 : (catTo i f).length + q < (catTo n f).length := by
        rw [List.getElem?_eq_getElem hq] at h2
        exact (List.getElem?_eq_some_iff.1 h2).1
      rw [List.getElem?_append_left h3, h2]
theorem same_word {l : D} {i q : Nat} (hi : i < l.len) (hq : q < (bW (oJ l i)).length) (h0 : eJ (cpB l) = 0) (hf : eJ (oJ l i) = 0) : ((wJ (cpB l)).el (3 + (ofJ l i + q)) 0).toS = ((wJ (oJ l i)).el (3 + q) 0).toS := by
  obtain ⟨x, hx⟩ : ∃ x, (bW (oJ l i))[q]? = some x := ⟨_, List.getElem?_eq_getElem hq⟩
  rw [wJ_el hf hx]
  refine wJ_el h0 ?_
  rw [bW_eq, cpB_len]
  unfold ofJ
  rw [oW hi] at hq hx
  rw [catTo_get hq _ hi, hx]
end Go.Proofs.YtomodncooiddaaaDoor.Sx.Z

namespace Go.Proofs.YtomodncooiddaaaDoor.Sx.Z
open Go.RowKit
def m6 (d : D) : Nat := if d.len ≤ 6 then d.len else 6
def lJ (d : D) : D := d.sub 0 (m6 d)
theorem m6_le (d : D) : m6 d ≤ d.len ∧ m6 d ≤ 6 := by
  unfold m6
  split <;> omega
theorem lJ_len (d : D) : (lJ d).len = m6 d := by
  unfold lJ
  rw [D.sub_len _ (m6_le d).1]; omega
theorem m6_eq (d : D) : (if (6 : Int) < (d.len : Int) then 6 else (d.len : Int)).toNat = m6 d := by
  unfold m6
  split <;> split <;> omega
theorem bS_sub {d : D} {l h : Nat} (hd : bS d) (hh : h ≤ d.len) : bS (d.sub l h) := by
  obtain ⟨h1, h2⟩ := (bS_iff d).1 hd
  have hl := D.sub_len d (l := l) hh
  refine (bS_iff _).2 ⟨?_, fun i hi => ?_⟩
  · rw [hl]
    exact Nat.le_trans (Nat.mul_le_mul_right 288 (by omega)) h1
  · rw [hl] at hi
    have e : ∀ j, (d.sub l h).el i j = d.el (l + i) j := fun j => D.sub_el _ hi j
    simp only [e]
    exact h2 (l + i) (by omega)
theorem of_le {l : D} : ∀ i, i ≤ l.len → (∀ j, j < i → eJ (oJ l j) = 0) → ofJ l i ≤ i * 2000 := by
  intro i
  induction i with
  | zero => intro _ _; exact Nat.zero_le _
  | succ i ih =>
    intro hi h
    have h1 := ih (by omega) fun j hj => h j (by omega)
    have h2 := ((eJ_0 _).1 (h i (by omega))).2.2
    rw [ofJ_succ l i hi, Nat.add_mul]
    omega
theorem wrN {n : Nat} (h : n ≤ 100000) : IntKind.i64.wrap (n : Int) = (n : Int) := IntWalk.i64_in _ (by omega)
noncomputable def jnsS : FSpec := fun ds _ => match ds with
  | [.d d] => some { val := .one (.sc (.bool (.lit true))), vc := [bS d] }
  | _ => none
noncomputable def jnsC : Con := con [.sc (.rows 39)] jnsS
theorem jns_ok : ConOK Tryd.prog 4 jnsC := by
  refine fn_ob tt_ok mixed Tryd.func4 rfl (fun _ _ => by kernel_rfl) (A := fun ds => ⟨fun _ => Cons.of [(9, (conZ ycpC)), (8, wrdC), (10, txtsC)], fun k => match k, ds with | 5, [.d d] => some { ι := Nat, pre := fun _ i => (i ≤ m6 d ∧ ∀ j, j < i → eJ (oJ (lJ d) j) = 0) ∧ True, μ := fun i => 7 - i, st := fun s i => famR s [(6, .one (.sc (.int .i64 (.sym ((i : Nat)))))), (5, .one (.sc (.int .i64 (.sym ((ofJ (lJ d) i : Nat)))))), (0, .one (.sc (.rows 39 (lJ d)))), (3, .one (.sc (.rows 9 (wJ (cpB (lJ d)))))), (4, .one (.sc (.int .i64 (.sym (eJ (cpB (lJ d)))))))] [2] [] [] } | 11, [.d d] => some { ι := Nat, pre := fun s q => q ≤ (bW (oJ (lJ d) (slotN s 6))).length ∧ True, μ := fun q => 2001 - q, st := fun s q => famR s [(9, .one (.sc (.int .i64 (.sym (((3 + q : Nat) : Int)))))), (5, .one (.sc (.int .i64 (.sym (((ofJ (lJ d) (slotN s 6) + q : Nat) : Int)))))), (7, .one (.sc (.rows 9 (wJ (oJ (lJ d) (slotN s 6))))))] [0, 2, 3, 4, 6] [] [] } | _, _ => none, fun _ => none⟩) (fun _ _ => (cons_cons (conZ_ok ycp_ok) (cons_cons wrd_ok (cons_cons txts_ok cons_nil)))) (by kernel_rfl) ?_
  intro ds fr
  unfold jnsS
  split
  · rename_i d
    refine kmp (q := bS d →
 (((0 : Int) ≤ if (6 : Int) < (↑d.len : Int) then (6 : Int) else (↑d.len : Int)) ∧
 (if (6 : Int) < (↑d.len : Int) then (6 : Int) else (↑d.len : Int)) ≤ (↑d.len : Int)) ∧
 SyS (D.l []) (D.l [])
 (D.l [[D.s (ByteArray.mk #[(112 : UInt8)]), D.l [], d.sub (0 : Nat) (if (6 : Int) < (↑d.len : Int) then (6 : Int) else (↑d.len : Int)).toNat]]) ∧
 SyOK (cpC (D.l [])) (cpU (D.l []))
 (cpP (D.l [[D.s (ByteArray.mk #[(112 : UInt8)]), D.l [], d.sub (0 : Nat) (if (6 : Int) < (↑d.len : Int) then (6 : Int) else (↑d.len : Int)).toNat]])) ∧
 (syB (cpC (D.l [])) (cpU (D.l []))
 (cpP
 (D.l
 [[D.s (ByteArray.mk #[(112 : UInt8)]), D.l [], d.sub (0 : Nat) (if (6 : Int) < (↑d.len : Int) then (6 : Int) else (↑d.len : Int)).toNat]])) =
 true →
 syN
 (cpP
 (D.l
 [[D.s (ByteArray.mk #[(112 : UInt8)]), D.l [], d.sub (0 : Nat) (if (6 : Int) < (↑d.len : Int) then (6 : Int) else (↑d.len : Int)).toNat]])) =
 true →
 SyF (cpC (D.l [])) (cpU (D.l []))
 (cpP
 (D.l
 [[D.s (ByteArray.mk #[(112 : UInt8)]), D.l [], d.sub (0 : Nat) (if (6 : Int) < (↑d.len : Int) then (6 : Int) else (↑d.len : Int)).toNat]]))) ∧
 (∃ (i : Nat),
 ((i ≤ m6 d ∧ ∀ (j : Nat), j < i → eJ (oJ (lJ d) j) = (0 : Int)) ∧ True) ∧
 (0 : Int) = (↑i : Int) ∧
 (0 : Int) = (↑(ofJ (lJ d) i) : Int) ∧
 List.drop (0 : Nat) (List.take (if (6 : Int) < (↑d.len : Int) then (6 : Int) else (↑d.len : Int)).toNat d.rows) =
 List.drop (0 : Nat) (List.take (m6 d) d.rows) ∧
 (wdA (cpC (D.l [])) (cpU (D.l []))
 (cpP
 (D.l
 [[D.s (ByteArray.mk #[(112 : UInt8)]), D.l [],
 d.sub (0 : Nat) (if (6 : Int) < (↑d.len : Int) then (6 : Int) else (↑d.len : Int)).toNat]]))).rows =
 (wJ (cpB (lJ d))).rows ∧
 wdE (cpC (D.l [])) (cpU (D.l []))
 (cpP
 (D.l
 [[D.s (ByteArray.mk #[(112 : UInt8)]), D.l [],
 d.sub (0 : Nat) (if (6 : Int) < (↑d.len : Int) then (6 : Int) else (↑d.len : Int)).toNat]])) =
 eJ (cpB (lJ d)) ∧
 false = false) ∧
 ∀ (i : Nat),
 (i ≤ m6 d ∧ ∀ (j : Nat), j < i → eJ (oJ (lJ d) j) = (0 : Int)) ∧ True →
 (decide ((↑i : Int) < (↑(lJ d).len : Int)) = true →
 ((0 : Int) ≤ IntKind.i64.wrap ((↑i : Int) + (1 : Int)) ∧ IntKind.i64.wrap ((↑i : Int) + (1 : Int)) ≤ (↑(lJ d).len : Int)) ∧
 ((0 : Int) ≤ (↑i : Int) ∧ (↑i : Int) ≤ (↑(IntKind.i64.wrap ((↑i : Int) + (1 : Int))).toNat : Int)) ∧
 SyS (D.l []) (D.l [])
 (D.l [[D.s (ByteArray.mk #[(112 : UInt8)]), D.l [], (lJ d).sub (↑i : Int).toNat (IntKind.i64.wrap ((↑i : Int) + (1 : Int))).toNat]]) ∧
 SyOK (cpC (D.l [])) (cpU (D.l []))
 (cpP
 (D.l
 [[D.s (ByteArray.mk #[(112 : UInt8)]), D.l [],
 (lJ d).sub (↑i : Int).toNat (IntKind.i64.wrap ((↑i : Int) + (1 : Int))).toNat]])) ∧
 (syB (cpC (D.l [])) (cpU (D.l []))
 (cpP
 (D.l
 [[D.s (ByteArray.mk #[(112 : UInt8)]), D.l [],
 (lJ d).sub (↑i : Int).toNat (IntKind.i64.wrap ((↑i : Int) + (1 : Int))).toNat]])) =
 true →
 syN
 (cpP
 (D.l
 [[D.s (ByteArray.mk #[(112 : UInt8)]), D.l [],
 (lJ d).sub (↑i : Int).toNat (IntKind.i64.wrap ((↑i : Int) + (1 : Int))).toNat]])) =
 true →
 SyF (cpC (D.l [])) (cpU (D.l []))
 (cpP
 (D.l
 [[D.s (ByteArray.mk #[(112 : UInt8)]), D.l [],
 (lJ d).sub (↑i : Int).toNat (IntKind.i64.wrap ((↑i : Int) + (1 : Int))).toNat]]))) ∧
 ((wdE (cpC (D.l [])) (cpU (D.l []))
 (cpP
 (D.l
 [[D.s (ByteArray.mk #[(112 : UInt8)]), D.l [],
 (lJ d).sub (↑i : Int).toNat (IntKind.i64.wrap ((↑i : Int) + (1 : Int))).toNat]])) !=
 (0 : Int)) =
 true →
 (eJ (cpB (lJ d)) != (0 : Int)) = true) ∧
 ((wdE (cpC (D.l [])) (cpU (D.l []))
 (cpP
 (D.l
 [[D.s (ByteArray.mk #[(112 : UInt8)]), D.l [],
 (lJ d).sub (↑i : Int).toNat (IntKind.i64.wrap ((↑i : Int) + (1 : Int))).toNat]])) !=
 (0 : Int)) =
 false →
 (∃ (i_1 : Nat),
 (i_1 ≤ (bW (oJ (lJ d) i)).length ∧ True) ∧
 (3 : Int) = (↑((3 : Nat) + i_1) : Int) ∧
 (↑(ofJ (lJ d) i) : Int) = (↑(ofJ (lJ d) i + i_1) : Int) ∧
 (wdA (cpC (D.l [])) (cpU (D.l []))
 (cpP
 (D.l
 [[D.s (ByteArray.mk #[(112 : UInt8)]), D.l [],
 (lJ d).sub (↑i : Int).toNat (IntKind.i64.wrap ((↑i : Int) + (1 : Int))).toNat]]))).rows =
 (wJ (oJ (lJ d) i)).rows ∧
 List.drop (0 : Nat) (List.take (m6 d) d.rows) = List.drop (0 : Nat) (List.take (m6 d) d.rows) ∧
 false = false ∧
 (wJ (cpB (lJ d))).rows = (wJ (cpB (lJ d))).rows ∧
 eJ (cpB (lJ d)) = eJ (cpB (lJ d)) ∧ (↑i : Int) = (↑i : Int)) ∧
 ∀ (i_1 : Nat),
 i_1 ≤ (bW (oJ (lJ d) i)).length ∧ True →
 (decide ((↑((3 : Nat) + i_1) : Int) < IntKind.i64.wrap ((↑(wJ (oJ (lJ d) i)).len : Int) - (1 : Int))) = true →
 (decide (IntKind.i64.wrap ((3 : Int) + (↑(ofJ (lJ d) i + i_1) : Int)) ≥ (↑(wJ (cpB (lJ d))).len : Int)) = false ∧
 (eJ (cpB (lJ d)) == (0 : Int)) = true ∧ True →
 (0 : Int) ≤ IntKind.i64.wrap ((3 : Int) + (↑(ofJ (lJ d) i + i_1) : Int)) ∧
 IntKind.i64.wrap ((3 : Int) + (↑(ofJ (lJ d) i + i_1) : Int)) < (↑(wJ (cpB (lJ d))).len : Int)) ∧
 (decide (IntKind.i64.wrap ((3 : Int) + (↑(ofJ (lJ d) i + i_1) : Int)) ≥ (↑(wJ (cpB (lJ d))).len : Int)) = false ∧
 (eJ (cpB (lJ d)) == (0 : Int)) = true ∧ True →
 (0 : Int) ≤ (↑((3 : Nat) + i_1) : Int) ∧ (↑((3 : Nat) + i_1) : Int) < (↑(wJ (oJ (lJ d) i)).len : Int)) ∧
 ((eJ (cpB (lJ d)) == (0 : Int) &&
 (decide
 (IntKind.i64.wrap ((3 : Int) + (↑(ofJ (lJ d) i + i_1) : Int)) ≥ (↑(wJ (cpB (lJ d))).len : Int)) ||
 !((wJ (cpB (lJ d))).el (IntKind.i64.wrap ((3 : Int) + (↑(ofJ (lJ d) i + i_1) : Int))).toNat
 (0 : Nat)).toS.toList ==
 ((wJ (oJ (lJ d) i)).el (↑((3 : Nat) + i_1) : Int).toNat (0 : Nat)).toS.toList)) =
 true →
 false = true) ∧
 ((eJ (cpB (lJ d)) == (0 : Int) &&
 (decide
 (IntKind.i64.wrap ((3 : Int) + (↑(ofJ (lJ d) i + i_1) : Int)) ≥ (↑(wJ (cpB (lJ d))).len : Int)) ||
 !((wJ (cpB (lJ d))).el (IntKind.i64.wrap ((3 : Int) + (↑(ofJ (lJ d) i + i_1) : Int))).toNat
 (0 : Nat)).toS.toList ==
 ((wJ (oJ (lJ d) i)).el (↑((3 : Nat) + i_1) : Int).toNat (0 : Nat)).toS.toList)) =
 false →
 ∃ (j : Nat),
 (j ≤ (bW (oJ (lJ d) i)).length ∧ True) ∧
 (2001 : Nat) - j < (2001 : Nat) - i_1 ∧
 IntKind.i64.wrap ((↑((3 : Nat) + i_1) : Int) + (1 : Int)) = (↑((3 : Nat) + j) : Int) ∧
 IntKind.i64.wrap ((↑(ofJ (lJ d) i + i_1) : Int) + (1 : Int)) = (↑(ofJ (lJ d) i + j) : Int) ∧
 (wJ (oJ (lJ d) i)).rows = (wJ (oJ (lJ d) i)).rows ∧
 List.drop (0 : Nat) (List.take (m6 d) d.rows) = List.drop (0 : Nat) (List.take (m6 d) d.rows) ∧
 false = false ∧
 (wJ (cpB (lJ d))).rows = (wJ (cpB (lJ d))).rows ∧
 eJ (cpB (lJ d)) = eJ (cpB (lJ d)) ∧ (↑i : Int) = (↑i : Int))) ∧
 (decide ((↑((3 : Nat) + i_1) : Int) < IntKind.i64.wrap ((↑(wJ (oJ (lJ d) i)).len : Int) - (1 : Int))) = false →
 ∃ (j : Nat),
 ((j ≤ m6 d ∧ ∀ (j_1 : Nat), j_1 < j → eJ (oJ (lJ d) j_1) = (0 : Int)) ∧ True) ∧
 (7 : Nat) - j < (7 : Nat) - i ∧
 IntKind.i64.wrap ((↑i : Int) + (1 : Int)) = (↑j : Int) ∧
 (↑(ofJ (lJ d) i + i_1) : Int) = (↑(ofJ (lJ d) j) : Int) ∧
 List.drop (0 : Nat) (List.take (m6 d) d.rows) = List.drop (0 : Nat) (List.take (m6 d) d.rows) ∧
 (wJ (cpB (lJ d))).rows = (wJ (cpB (lJ d))).rows ∧ eJ (cpB (lJ d)) = eJ (cpB (lJ d)) ∧ false = false))) ∧
 (decide ((↑i : Int) < (↑(lJ d).len : Int)) = false →
 (eJ (cpB (lJ d)) == (0 : Int) && (↑(wJ (cpB (lJ d))).len : Int) == IntKind.i64.wrap ((↑(ofJ (lJ d) i) : Int) + (4 : Int)) ||
 eJ (cpB (lJ d)) == (4 : Int) && decide (IntKind.i64.wrap ((↑(ofJ (lJ d) i) : Int) + (4 : Int)) > (2000 : Int))) =
 true)) (by kernel_rfl) ?_
    intro hd
    have hm := m6_le d
    have hl := lJ_len d
    have hb : bS (lJ d) := bS_sub hd hm.1
    simp only [m6_eq]
    refine ⟨⟨by split <;> omega, by split <;> omega⟩, SyS_J hb, SyOK_J (sOK_cp hb), fun h _ => SyF_J (bF_of ((syB_J _).symm.trans h) (sOK_cp hb)), ⟨0, ⟨⟨Nat.zero_le _, fun j hj => absurd hj (Nat.not_lt_zero j)⟩, trivial⟩, (by (repeat' (with_reducible apply And.intro)) <;> first | trivial | rfl)⟩, ?_⟩
    rintro i ⟨⟨hi, hf⟩, _⟩
    have hof := of_le i (by omega) hf
    refine ⟨fun hc => ?_, fun hc => ?_⟩
    · have hc : i < (lJ d).len := by simpa using hc
      have e1 : IntKind.i64.wrap ((i : Int) + 1) = ((i + 1 : Nat) : Int) := by rw [IntWalk.i64_in _ (by omega)]; omega
      have hbi : bS ((lJ d).sub i (i + 1)) := bS_sub hb hc
      simp only [e1, Int.toNat_natCast]
      refine ⟨⟨by omega, by omega⟩, ⟨by omega, by omega⟩, SyS_J hbi, SyOK_J (sOK_cp hbi), fun h _ => SyF_J (bF_of ((syB_J _).symm.trans h) (sOK_cp hbi)), fun h => ?_, fun h => ?_⟩
      · have h : (eJ (oJ (lJ d) i) != 0) = true := h
        have h2 := f_ne hc (by simpa using h)
        simpa using h2
      · have h : (eJ (oJ (lJ d) i) != 0) = false := h
        have h : eJ (oJ (lJ d) i) = 0 := by simpa using h
        have hz := ((eJ_0 _).1 h).2.2
        have hwl := wJ_len h
        have hsu := ofJ_succ (lJ d) i hc
        refine ⟨⟨0, ⟨Nat.zero_le _, trivial⟩, (by (repeat' (with_reducible apply And.intro)) <;> first | trivial | rfl)⟩, ?_⟩
        rintro q ⟨hq, _⟩
        have ew : IntKind.i64.wrap (((wJ (oJ (lJ d) i)).len : Int) - 1) = ((3 + (bW (oJ (lJ d) i)).length : Nat) : Int) := by
          rw [hwl, IntWalk.i64_in _ (by omega)]; omega
        rw [ew]
        refine ⟨fun hk => ?_, fun hk => ?_⟩
        · have hk := of_decide_eq_true hk
          have hk : q < (bW (oJ (lJ d) i)).length := by omega
          have ea : IntKind.i64.wrap (3 + ((ofJ (lJ d) i + q : Nat) : Int)) = ((3 + (ofJ (lJ d) i + q) : Nat) : Int) := by rw [IntWalk.i64_in _ (by omega)]; omega
          have eb : IntKind.i64.wrap (((3 + q : Nat) : Int) + 1) = ((3 + (q + 1) : Nat) : Int) := by rw [IntWalk.i64_in _ (by omega)]; omega
          have ec : IntKind.i64.wrap (((ofJ (lJ d) i + q : Nat) : Int) + 1) = ((ofJ (lJ d) i + (q + 1) : Nat) : Int) := by rw [IntWalk.i64_in _ (by omega)]; omega
          have hcnd : (eJ (cpB (lJ d)) == 0 && (decide (((3 + (ofJ (lJ d) i + q) : Nat) : Int) ≥ ((wJ (cpB (lJ d))).len : Int)) || !((wJ (cpB (lJ d))).el (3 + (ofJ (lJ d) i + q)) 0).toS.toList == ((wJ (oJ (lJ d) i)).el (3 + q) 0).toS.toList)) = false := by
            by_cases e0 : eJ (cpB (lJ d)) = 0
            · have hs := same_word hc hk e0 h
              have hal := wJ_len e0
              have hle := ofJ_le (lJ d) (show i + 1 ≤ (lJ d).len from hc)
              rw [all_len] at hal
              rw [hs, decide_eq_false (by omega)]
              simp
            · rw [beq_eq_false_iff_ne.2 e0]; rfl
          simp only [ea, eb, ec, Int.toNat_natCast]
          refine ⟨fun hx => ?_, fun _ => ⟨by omega, by omega⟩, fun hx => ?_, fun _ => ⟨q + 1, ⟨hk, trivial⟩, by omega, (by (repeat' (with_reducible apply And.intro)) <;> first | trivial | rfl)⟩⟩
          · have := of_decide_eq_false hx.1
            exact ⟨by omega, by omega⟩
          · rw [hcnd] at hx; cases hx
        · have hk := of_decide_eq_false hk
          obtain rfl : q = (bW (oJ (lJ d) i)).length := by omega
          refine ⟨i + 1, ⟨⟨by omega, fun j hj => ?_⟩, trivial⟩, by omega, (by (repeat' (with_reducible apply And.intro)) <;> first | with_reducible rfl | (rw [hsu]) | exact True.intro | rfl)⟩
          by_cases hji : j = i
          · rw [hji]; exact h
          · exact hf j (by omega)
    · have hc : ¬ i < (lJ d).len := by simpa using hc
      have hil : i = (lJ d).len := by omega
      rw [hil] at hf hof ⊢
      have e4 : IntKind.i64.wrap ((ofJ (lJ d) (lJ d).len : Int) + 4) = ((ofJ (lJ d) (lJ d).len + 4 : Nat) : Int) := by rw [IntWalk.i64_in _ (by omega)]; omega
      rw [e4]
      rcases e_04 hf with ⟨h1, h2⟩ | ⟨h1, h2⟩
      · rw [h1, wJ_len h1, all_len]
        simp
      · rw [h1, decide_eq_true (by omega)]
        rfl
  · trivial
end Go.Proofs.YtomodncooiddaaaDoor.Sx.Z

namespace Go.Proofs.YtomodncooiddaaaDoor.Sx.Z
open Go.RowKit
theorem kS_in : ∀ (m : Nat) (d : D), SizeOf.sizeOf d ≤ m → DOkB Tryd.prog (.slice 34) d → kS d := by
  intro m
  induction m with
  | zero =>
    intro d h hd
    cases hd with
    | slice e d h1 h2 =>
      have hb : Tryd.prog.bytesOf 34 = 56 := by kernel_rfl
      rw [hb] at h1
      refine (kS_iff d).2 ⟨Nat.le_trans h1 (by decide), fun i hi => ?_⟩
      have := lel_lt (j := 3) hi
      omega
  | succ m ih =>
    intro d h hd
    cases hd with
    | slice e d h1 h2 =>
      have hb : Tryd.prog.bytesOf 34 = 56 := by kernel_rfl
      rw [hb] at h1
      refine (kS_iff d).2 ⟨Nat.le_trans h1 (by decide), fun i hi => ?_⟩
      have := lel_lt (j := 3) hi
      exact ih _ (by omega) (h2 i 3 _ hi (by rfl))
theorem bS_in : ∀ (m : Nat) (d : D), SizeOf.sizeOf d ≤ m → DOkB Tryd.prog (.slice 39) d → bS d := by
  intro m
  induction m with
  | zero =>
    intro d h hd
    cases hd with
    | slice e d h1 h2 =>
      have hb : Tryd.prog.bytesOf 39 = 288 := by kernel_rfl
      rw [hb] at h1
      refine (bS_iff d).2 ⟨Nat.le_trans h1 (by decide), fun i hi => ?_⟩
      have := lel_lt (j := 3) hi
      omega
  | succ m ih =>
    intro d h hd
    cases hd with
    | slice e d h1 h2 =>
      have hb : Tryd.prog.bytesOf 39 = 288 := by kernel_rfl
      rw [hb] at h1
      refine (bS_iff d).2 ⟨Nat.le_trans h1 (by decide), fun i hi => ?_⟩
      have l1 := lel_lt (j := 16) hi
      have l2 := lel_lt (j := 17) hi
      have l3 := lel_lt (j := 18) hi
      have ha := h2 i 18 _ hi (by rfl)
      refine ⟨kS_in _ _ (Nat.le_refl _) (h2 i 6 _ hi (by rfl)), kS_in _ _ (Nat.le_refl _) (h2 i 11 _ hi (by rfl)), kS_in _ _ (Nat.le_refl _) (h2 i 15 _ hi (by rfl)), ih _ (by omega) (h2 i 16 _ hi (by rfl)), ih _ (by omega) (h2 i 17 _ hi (by rfl)), ?_⟩
      generalize d.el i 18 = am at ha l3 ⊢
      cases ha with
      | slice e am a1 a2 =>
        have hb2 : Tryd.prog.bytesOf 60 = 56 := by kernel_rfl
        rw [hb2] at a1
        refine ⟨Nat.le_trans a1 (by decide), fun j hj => ?_⟩
        have l4 := lel_lt (j := 2) hj
        exact ih _ (by omega) (a2 j 2 _ hj (by rfl))
end Go.Proofs.YtomodncooiddaaaDoor.Sx.Z
