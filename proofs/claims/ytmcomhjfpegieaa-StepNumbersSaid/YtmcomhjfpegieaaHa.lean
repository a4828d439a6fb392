/-
  conf's copies of lists: of one number, of none, of one list, of no lists.
-/
import Derived.Test.YtmcomhjfpegieaaGb
import Derived.Maps.AppendAt
namespace Go.Proofs.Ytmcomhjfpegieaa
open Go.RowKit

/-- No elements appended to nil. -/
theorem run_append_zero {P : Program} (t ty e : TypeId) (i : TypeInfo) (ht : P.underlying t = some (.slice e)) (hi : P.info? e = some i) (A : Option Addr) (c : Nat) (w : World) :
    (Builtin.append_ #[t, t] ty #[.slice none 0 0, .slice A 0 c]).run P w = .ok (.slice none 0 0) w := by
  cases A with
  | none => simp [Builtin.append_, run_underlying ht, sizeOf, typeInfo, hi, Builtin.lenOf, Builtin.firstCells]
  | some ad => simp [Builtin.append_, run_underlying ht, sizeOf, typeInfo, hi, Builtin.lenOf, Builtin.firstCells, loadCells, loadCellsFrom, storeCells]
theorem wpList_append_zero {P : Program} {w : World} {ops : Array Oper} {rest : List Oper} {o : Oper} {a : Act} {Q : Exit → Act → World → Prop} (hgd : o.guard = none) (s x : Operand) (t : TypeId)
    (ho : o.op = .call { callee := .builtin .append, args := #[s, x], argTypes := #[t, t] }) (e : TypeId) (i : TypeInfo) (ht : P.underlying t = some (.slice e)) (hi : P.info? e = some i)
    (hs : a.eval s = .slice none 0 0) (A : Option Addr) (c : Nat) (hx : a.eval x = .slice A 0 c) (h : wpList P ops Q rest (a.put o.dst (.slice none 0 0)) w) : wpList P ops Q (o :: rest) a w := by
  refine wpList_plain hgd fun _ hK => ?_
  have hr := run_append_zero (P := P) t o.type e i ht hi A c w
  unfold Oper.wp execOp
  simp only [ho, resolve, invoke, builtin, Sem.run_bind, Sem.run_pure, Result.andThen_ok, List.map_toArray, List.map_cons, List.map_nil, hs, hx, hr]
  exact hK _ _ h
theorem own_base {w : World} {b b' : Nat} {e : TypeId} {size n : Nat} {v : Value} {xs : List Value} (h : w.ownsRow b' e size v n xs) (hb : b ≤ b') : w.ownsRow b e size v n xs := by
  refine ⟨h.1, ?_⟩
  rcases h.2 with h0 | ⟨g, cap, cur, rfl, hg, h1⟩
  · exact .inl h0
  · exact .inr ⟨g, cap, cur, rfl, Nat.le_trans hb hg, h1⟩
/-- A list of one cell, of one's own. -/
def OneOut (w : World) (t : TypeId) (x : Value) (e : Ending) (w' : World) : Prop :=
  ∃ g cap, e = .returned (.slice (some ⟨g, 0, none⟩) 1 cap) ∧ w'.ownsRow w.heap.size t 1 (.slice (some ⟨g, 0, none⟩) 1 cap) 1 [x] ∧ Below w.heap.size w w'

set_option maxRecDepth 100000 in
set_option maxHeartbeats 1000000 in
theorem copyInt_one (b c : Nat) (x : Int) (w : World) (_hb : b < w.heap.size) (hx : w.cell? ⟨b, 0, none⟩ = some (.int .i64 x)) :
    Calls Try.prog 32 #[.slice (some ⟨b, 0, none⟩) 1 c] w (OneOut w 3 (.int .i64 x)) := by
  obtain ⟨ii, hii, iz0, iz1, iz2⟩ := info_parts info_int
  have hn : ∀ (j : Nat) (u : Value), ([.int .i64 x] : List Value)[j]? = some u → w.cell? ((⟨b, 0, none⟩ : Addr).add j) = some u := fun j u hu => by
    match j, hu with
    | 0, hu => cases hu; exact hx
    | j + 1, hu => simp at hu
  replace hii := Lib.hid hii
  replace hn := Lib.hid hn
  go_enter Try.func32, Try.ntmps32
  go_upto_region 1 with fail
  go_wp2_with (refine wpList_append_lies _ rfl _ _ _ rfl w.heap.size 3 ii (.int .i64 0) 1 8 Try.underlying30 hii.out iz0 iz1 iz2 rfl ?c0 (.slice none 0 0) 0 [] rfl (World.ownsRow_nil _ _ _ _) ⟨b, 0, none⟩ 1 c [.int .i64 x] rfl rfl hn.out ?c1 ?c2 ?c3 ?c4 (Nat.le_refl _) w.heap.size rfl ?_)
  case c0 => decide
  case c1 => simp [Value.oneCell']
  case c2 => decide
  case c3 => unfold maxLen; decide
  case c4 => decide
  intro g cap w1 hown hgrow _ _
  go_wp2_with fail
  have hb1 : Below w.heap.size w w1 := below_grown hgrow (Below.refl _ _) (Nat.le_refl _) (fun b hb => by simp [Value.ownBlock] at hb)
  go_ret
  exact ⟨g, cap, rfl, hown, hb1⟩
set_option maxRecDepth 100000 in
set_option maxHeartbeats 1000000 in
theorem copyInt_none (A : Option Addr) (c : Nat) (w : World) :
    Calls Try.prog 32 #[.slice A 0 c] w fun e w' => e = .returned (.slice none 0 0) ∧ w = w' := by
  obtain ⟨ii, hii, iz0, iz1, iz2⟩ := info_parts info_int
  go_enter Try.func32, Try.ntmps32
  go_wp2_with (refine wpList_append_zero rfl _ _ _ rfl 3 ii Try.underlying30 hii rfl A c rfl ?_)
  go_ret
  exact ⟨rfl, rfl⟩

/-- A list of one list of one number, both of one's own. -/
def OneList (w : World) (x : Int) (e : Ending) (w' : World) : Prop :=
  ∃ g cap b c, e = .returned (.slice (some ⟨g, 0, none⟩) 1 cap) ∧ w'.ownsRow w.heap.size 30 1 (.slice (some ⟨g, 0, none⟩) 1 cap) 1 [.slice (some ⟨b, 0, none⟩) 1 c] ∧
    w'.ownsRow w.heap.size 3 1 (.slice (some ⟨b, 0, none⟩) 1 c) 1 [.int .i64 x] ∧ Below w.heap.size w w'
theorem info_ints : (Try.prog.info? 30).map (fun i => (i.zero, i.size, i.bytes)) = some (some (.slice none 0 0), 1, 24) := by kernel_rfl
set_option maxRecDepth 100000 in
set_option maxHeartbeats 1000000 in
theorem copyInts_one (v cv b c : Nat) (x : Int) (w : World) (hcv : 1 ≤ cv) (hv : v < w.heap.size) (hb : b < w.heap.size) (hl : w.cell? ⟨v, 0, none⟩ = some (.slice (some ⟨b, 0, none⟩) 1 c)) (hx : w.cell? ⟨b, 0, none⟩ = some (.int .i64 x)) :
    Calls Try.prog 56 #[.slice (some ⟨v, 0, none⟩) 1 cv] w (OneList w x) := by
  obtain ⟨ii, hii, iz0, iz1, iz2⟩ := info_parts info_ints
  replace hii := Lib.hid hii
  go_enter Try.func56, Try.ntmps56
  go_wp2_with fail
  refine wp_loop_rounds 2 ?_
  rw [rounds_succ]
  go_wp2_with fail
  refine (copyInt_one b c x w hb hx).mono ?_
  rintro e w1 ⟨g, cap, rfl, hown, hb1⟩
  have hz1 := hb1.size
  go_upto_region 6 with (refine wpList_append_lies _ rfl _ _ _ rfl w.heap.size 30 ii (.slice none 0 0) 1 24 Try.underlying37 hii.out iz0 iz1 iz2 rfl ?c0 (.slice none 0 0) 0 [] rfl (World.ownsRow_nil _ _ _ _) ⟨w1.heap.size, 0, none⟩ 1 1 [.slice (some ⟨g, 0, none⟩) 1 cap] rfl rfl (World.news_of_block (cs := #[.slice (some ⟨g, 0, none⟩) 1 cap]) (t := 30) (fr := (0, 0)) (blkA _ _ rfl)) ?c1 ?c2 ?c3 ?c4 (by simp; omega) (w1.heap.size + 1) (by simp) ?_)
  case c0 => decide
  case c1 => simp [Value.oneCell']
  case c2 => decide
  case c3 => unfold maxLen; decide
  case c4 => decide
  intro g2 cap2 w2 hown2 hgrow _ _
  have hb2 : Below w.heap.size w w2 := below_grown hgrow (hb1.alloc hb1.size _) (Nat.le_refl _) (fun b hb => by simp [Value.ownBlock] at hb)
  have hown' := (hown.alloc (.cells #[.slice (some ⟨g, 0, none⟩) 1 cap] 30)).kept hgrow (by simp [Value.ownBlock])
  replace hown' := Lib.hid hown'
  replace hown2 := Lib.hid hown2
  clear hown hgrow hb1
  go_wp2_with fail
  rw [rounds_succ]
  go_wp2_with fail
  go_ret
  exact ⟨g2, cap2, g, cap, rfl, hown2.out, hown'.out, hb2⟩
set_option maxRecDepth 100000 in
set_option maxHeartbeats 1000000 in
theorem copyMsgs_none (A : Option Addr) (c : Nat) (w : World) :
    Calls Try.prog 57 #[.slice A 0 c] w fun e w' => e = .returned (.slice none 0 0) ∧ w = w' := by
  go_enter Try.func57, Try.ntmps57
  go_wp2_with fail
  refine wp_loop_rounds 1 ?_
  rw [rounds_succ]
  go_wp2_with fail
  go_ret
  exact ⟨rfl, rfl⟩
end Go.Proofs.Ytmcomhjfpegieaa
