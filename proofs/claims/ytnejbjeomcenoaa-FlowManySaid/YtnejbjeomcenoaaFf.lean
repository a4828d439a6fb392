/-
  flow's layer: its nodes, edges and heads in memory; full, node and edge by contracts.
-/
import Derived.Test.YtnejbjeomcenoaaFd
import Derived.Deep.AppendLies
import Derived.Deep.RegionLaw
import Derived.Deep.QuietTactic
import Derived.BigQuiet
import Derived.RegionTactic
import Derived.StillTailTactics
import Derived.Great.Walk
namespace Go.Proofs.Ytnejbjeomcenoaa
open Go.RowKit

/-- The layer lies in block g: how many nodes; its edges, so many, each of nineteen cells; its heads. -/
def LayAt (w : World) (base g : Nat) (N : Int) (ne : Nat) (es : List Value) (nh : Nat) (hs : List Value) : Prop :=
  ∃ (E H : Option Addr) (ce ch : Nat), w.heap[g]? = some (.cells #[.int .i64 N, .slice E ne ce, .slice H nh ch] 71 (0, 0)) ∧
    w.ownsRow base 55 19 (.slice E ne ce) ne es ∧ w.ownsRow base 3 1 (.slice H nh ch) nh hs ∧ base ≤ g ∧
    (∀ b, (Value.slice E ne ce).ownBlock = some b → b ≠ g) ∧ (∀ b, (Value.slice H nh ch).ownBlock = some b → b ≠ g ∧ (Value.slice E ne ce).ownBlock ≠ some b)
theorem info_layer : (Try.prog.info? 71).map (·.size) = some 3 := by kernel_rfl
theorem info_edge : (Try.prog.info? 55).map (·.size) = some 19 := by kernel_rfl
theorem info_edge' : (Try.prog.info? 55).map (fun i => (i.zero, i.size, i.bytes)) = some (some (.agg #[.int .i64 0, .int .i64 0, .int .i64 0, .int .i64 0, .int .i64 0, .int .i64 0, .int .i64 0, .int .i64 0, .int .i64 0, .slice none 0 0, .int .i64 0, .int .i64 0, .int .i64 0, .int .i64 0, .slice none 0 0, .int .i64 0, .int .i64 0, .int .i64 0, .slice none 0 0]), 19, 200) := by kernel_rfl

set_option maxRecDepth 100000 in
set_option maxHeartbeats 2000000 in
theorem full_any (w : World) (g : Nat) (x0 x2 : Value) (E : Option Addr) (ne ce : Nat) (h : w.heap[g]? = some (.cells #[x0, .slice E ne ce, x2] 71 (0, 0))) :
    Calls Try.prog 22 #[.pointer (some ⟨g, 0, none⟩)] w fun e w' => e = .returned (.bool (decide (400 < ne))) ∧ w = w' := by
  have r := row_of h
  clear h
  go_enter Try.func22, Try.ntmps22
  go_wp2
  go_ret
  exact ⟨by show Ending.returned (.bool (decide (400 < (ne : Int)))) = _; congr 2; rw [decide_eq_decide]; omega, rfl⟩

set_option maxRecDepth 100000 in
set_option maxHeartbeats 2000000 in
theorem node_any (w : World) (g : Nat) (N : Int) (x1 x2 : Value) (h : w.heap[g]? = some (.cells #[.int .i64 N, x1, x2] 71 (0, 0))) (h0 : 0 ≤ N) (h1 : N ≤ 1000000000) :
    Calls Try.prog 34 #[.pointer (some ⟨g, 0, none⟩)] w fun e w' => e = .returned (.int .i64 N) ∧ w' = w.setCell ⟨g, 0, none⟩ (.int .i64 (N + 1)) := by
  have r := row_of h
  have f0 : w.frozen? ⟨g, 0, none⟩ = false := by simp [World.frozen?, h]
  clear h
  go_enter Try.func34, Try.ntmps34
  go_wp2
  go_ret
  exact ⟨rfl, rfl⟩

theorem grown_blk {W w1 : World} {own : Option Nat} {b : Nat} {x : Obj} (h : W.grownBy w1 own) (hb : W.heap[b]? = some x) (hne : own ≠ some b) : w1.heap[b]? = some x := (h.block b (blk_lt hb) (fun e => hne e.symm)).trans hb
theorem frozen_of {W : World} {b : Nat} {R : Array Value} {t : TypeId} (h : W.heap[b]? = some (.cells R t (0, 0))) (o : Nat) : W.frozen? ⟨b, o, none⟩ = false := by simp [World.frozen?, h]
theorem lay_grown {W w1 : World} {base g : Nat} {N : Int} {E H : Option Addr} {ne ce nh ch gg cap : Nat} {es' hs : List Value} {n' : Nat} (hgrow : W.grownBy w1 (Value.slice E ne ce).ownBlock) (hg : W.heap[g]? = some (.cells #[.int .i64 N, .slice E ne ce, .slice H nh ch] 71 (0, 0)))
    (hH : W.ownsRow base 3 1 (.slice H nh ch) nh hs) (hbg : base ≤ g) (hEg : ∀ b, (Value.slice E ne ce).ownBlock = some b → b ≠ g) (hHg : ∀ b, (Value.slice H nh ch).ownBlock = some b → b ≠ g ∧ (Value.slice E ne ce).ownBlock ≠ some b)
    (hown : w1.ownsRow base 55 19 (.slice (some ⟨gg, 0, none⟩) n' cap) n' es') (SZ : Nat) (hSZ : W.heap.size = SZ) (hat : (Value.slice E ne ce).ownBlock = some gg ∨ gg = SZ) :
    LayAt (w1.setCell ⟨g, 1, none⟩ (.slice (some ⟨gg, 0, none⟩) n' cap)) base g N n' es' nh hs := by
  have hgl := blk_lt hg
  have hgg : gg ≠ g := by
    rcases hat with h | h
    · exact hEg gg h
    · omega
  have k1 := grown_blk hgrow hg (fun e => hEg g e rfl)
  have hset : w1.grownBy (w1.setCell ⟨g, 1, none⟩ (.slice (some ⟨gg, 0, none⟩) n' cap)) (some g) := ⟨rfl, rfl, rfl, by simp, fun i hi hne => Below.heap_setCell _ _ _ _ (by rintro rfl; exact hne rfl)⟩
  refine ⟨some ⟨gg, 0, none⟩, H, cap, ch, ?_, hown.kept hset (.inr (by simp [Value.ownBlock, hgg])), (hH.kept hgrow ?_).kept hset ?_, hbg, fun b hb => by simp [Value.ownBlock] at hb; omega, fun b hb => ⟨(hHg b hb).1, ?_⟩⟩
  · simp [World.setCell, Array.getElem?_modify, k1]
  · cases hh : (Value.slice H nh ch).ownBlock with
    | none => exact .inl rfl
    | some b => exact .inr (fun e => (hHg b hh).2 e.symm)
  · cases hh : (Value.slice H nh ch).ownBlock with
    | none => exact .inl rfl
    | some b => exact .inr (fun e => (hHg b hh).1 (by simpa using e))
  · intro e
    simp [Value.ownBlock] at e
    subst e
    have h2 := (hH.lt _ hb).2
    rcases hat with h | h
    · exact (hHg _ hb).2 h
    · omega
theorem below_grown {B : Nat} {w W w1 : World} {own : Option Nat} (hgrow : W.grownBy w1 own) (hb : Below w.heap.size w W) (hB : B ≤ w.heap.size) (ho : ∀ b, own = some b → B ≤ b) : Below B w w1 := (hb.mono hB).grown hgrow (Nat.le_trans hB hb.size) ho
theorem still_ld_mid {P : Program} {ops : Array Oper} {rest : List Oper} {o : Oper} {a : Act} {w : World} {Q : Act → Prop} (ty : TypeId) (x : Operand) (ho : o.op = .load ty x)
    (b k : Nat) (hx : a.eval x = .pointer (some ⟨b, k, none⟩)) (cs : List Value) (d : TypeDesc) (hc : w.rangeAt b k cs)
    (hu : P.underlying ty = some d) (hd : d.isRow = true) (hi : (P.info? ty).map (·.size) = some cs.length) (hw : Region.wanted o (yielded ops a.tmps) = true)
    (h : wpStill P ops w Q rest (a.put o.dst (.agg cs.toArray))) : wpStill P ops w Q (o :: rest) a := by
  unfold wpStill
  rw [if_pos hw]
  unfold Oper.still execOp
  simp only [ho, hx, Instr.loadAt, Instr.sureAddr, Sem.run_bind, Sem.run_pure, Result.andThen_ok, run_loadVar_mid w b k ty cs d hc hu hd hi]
  exact ⟨rfl, h⟩
/-- The cells of an edge. -/
def EdgeV (cs : List Value) : Prop := ∃ (xf xt xk xv xc xg xa xb xd xo ya yb yd za zb zd : Int) (A1 A2 A3 : Option Addr) (l1 j1 l2 j2 l3 j3 : Nat), cs = [.int .i64 xf, .int .i64 xt, .int .i64 xk, .int .i64 xv, .int .i64 xc, .int .i64 xg, .int .i64 xa, .int .i64 xb, .int .i64 xd, .slice A1 l1 j1, .int .i64 xo, .int .i64 ya, .int .i64 yb, .int .i64 yd, .slice A2 l2 j2, .int .i64 za, .int .i64 zb, .int .i64 zd, .slice A3 l3 j3]

theorem lay_below {w w1 : World} {base g : Nat} {N : Int} {ne nh : Nat} {es hs : List Value} (h : LayAt w base g N ne es nh hs) (hb : Below w.heap.size w w1) : LayAt w1 base g N ne es nh hs := by
  obtain ⟨E, H, ce, ch, hg, hE, hH, hbg, hEg, hHg⟩ := h
  have hgr : w.grownBy w1 none := ⟨hb.os, hb.tape, hb.output, hb.size, fun k hk _ => hb.block k hk⟩
  exact ⟨E, H, ce, ch, blk_keep hb hg, hE.kept hgr (by cases E <;> simp [Value.ownBlock]), hH.kept hgr (by cases H <;> simp [Value.ownBlock]), hbg, hEg, hHg⟩
/-- A load of a whole struct, closed to the walk: what it yields is said by a fact ahead of the walk. -/
def LoadS (t : TypeId) (v : Value) : Sem Value := Instr.loadAt t v
theorem to_LoadS (v : Value) : Instr.loadAt 55 v = LoadS 55 v := rfl
section
attribute [local go_sem ↓] to_LoadS

set_option maxRecDepth 100000 in
set_option maxHeartbeats 4000000 in
theorem edge_any (w : World) (base g : Nat) (N : Int) (ne : Nat) (es : List Value) (nh : Nat) (hs : List Value) (cs : List Value) (h : LayAt w base g N ne es nh hs) (hn : ne ≤ 100000) (hcs : EdgeV cs) :
    Calls Try.prog 33 #[.pointer (some ⟨g, 0, none⟩), .agg cs.toArray] w fun e w' => e = .returned (.tuple #[]) ∧ LayAt w' base g N (ne + 1) (es ++ cs) nh hs ∧ Below base w w' := by
  obtain ⟨E, H, ce, ch, hg, hE, hH, hbg, hEg, hHg⟩ := h
  obtain ⟨i0, hi, hz0, hz1, hz2⟩ := info_parts info_edge'
  obtain ⟨xf, xt, xk, xv, xc, xg, xa, xb, xd, xo, ya, yb, yd, za, zb, zd, A1, A2, A3, l1, j1, l2, j2, l3, j3, rfl⟩ := hcs
  have hlt := blk_lt hg
  have kg := Lib.hid hg
  replace hE := Lib.hid hE
  replace hH := Lib.hid hH
  have Hi := Lib.hid hi
  clear hg hi
  go_enter Try.func33, Try.ntmps33
  go_upto_region 1 with fail
  refine wp_world (fun W => W.heap[g]? = some (.cells #[.int .i64 N, .slice E ne ce, .slice H nh ch] 71 (0, 0)) ∧ W.heap[w.heap.size]? = some (.cells #[.int .i64 xf, .int .i64 xt, .int .i64 xk, .int .i64 xv, .int .i64 xc, .int .i64 xg, .int .i64 xa, .int .i64 xb, .int .i64 xd, .slice A1 l1 j1, .int .i64 xo, .int .i64 ya, .int .i64 yb, .int .i64 yd, .slice A2 l2 j2, .int .i64 za, .int .i64 zb, .int .i64 zd, .slice A3 l3 j3] 55 (0, 0)) ∧ Below w.heap.size w W ∧ W.heap.size = w.heap.size + 1) ⟨blkUp kg.out _, blkA _ _ rfl, (Below.refl _ _).alloc (Nat.le_refl _) _, by simp⟩ ?_
  rintro w0 ⟨k0, k1, hB0, hs0⟩
  have d1 : w0.cell? ⟨g, 1, none⟩ = some (.slice E ne ce) := row_of k0 1
  have hg0 := blk_lt k0
  have ra : w0.drew.rangeAt w.heap.size 0 [.int .i64 xf, .int .i64 xt, .int .i64 xk, .int .i64 xv, .int .i64 xc, .int .i64 xg, .int .i64 xa, .int .i64 xb, .int .i64 xd, .slice A1 l1 j1, .int .i64 xo, .int .i64 ya, .int .i64 yb, .int .i64 yd, .slice A2 l2 j2, .int .i64 za, .int .i64 zb, .int .i64 zd, .slice A3 l3 j3] := fun j v hv => by rw [Nat.zero_add]; exact (row_of k1 j).trans (by simpa using hv)
  have hsd : w0.drew.heap.size = w.heap.size + 1 := hs0
  have hEd0 : w0.drew.ownsRow base 55 19 (.slice E ne ce) ne es := (hE.out.kept (row := none) ⟨hB0.os, hB0.tape, hB0.output, hB0.size, fun k hk _ => hB0.block k hk⟩ (by cases E <;> simp [Value.ownBlock])).drew
  have hEd := Lib.hid hEd0
  clear hEd0
  have hld : (LoadS 55 (.pointer (some ⟨w.heap.size, 0, none⟩))).run Try.prog w0.drew = .ok (.agg #[.int .i64 xf, .int .i64 xt, .int .i64 xk, .int .i64 xv, .int .i64 xc, .int .i64 xg, .int .i64 xa, .int .i64 xb, .int .i64 xd, .slice A1 l1 j1, .int .i64 xo, .int .i64 ya, .int .i64 yb, .int .i64 yd, .slice A2 l2 j2, .int .i64 za, .int .i64 zb, .int .i64 zd, .slice A3 l3 j3]) w0.drew := run_loadAt_mid _ _ _ _ _ _ ra Try.underlying55 rfl info_edge
  clear ra
  have hHd := Lib.hid ((hH.out.kept (row := none) ⟨hB0.os, hB0.tape, hB0.output, hB0.size, fun k hk _ => hB0.block k hk⟩ (by cases H <;> simp [Value.ownBlock])).drew)
  have hBd : Below w.heap.size w w0.drew := ⟨hB0.os, hB0.tape, hB0.output, hB0.size, hB0.block⟩
  go_region_law (first
    | (refine step_append_lies _ (by rfl) _ _ _ (by rfl) base 55 i0 _ 19 200 Try.underlying48 Hi.out hz0 hz1 hz2 rfl (by omega) (.slice E ne ce) ne es (by rfl) (hEd.out.alloc _) ⟨w.heap.size + 1, 0, none⟩ 1 1 [.int .i64 xf, .int .i64 xt, .int .i64 xk, .int .i64 xv, .int .i64 xc, .int .i64 xg, .int .i64 xa, .int .i64 xb, .int .i64 xd, .slice A1 l1 j1, .int .i64 xo, .int .i64 ya, .int .i64 yb, .int .i64 yd, .slice A2 l2 j2, .int .i64 za, .int .i64 zb, .int .i64 zd, .slice A3 l3 j3] (by rfl) (by rfl) (World.news_of_block (cs := #[.int .i64 xf, .int .i64 xt, .int .i64 xk, .int .i64 xv, .int .i64 xc, .int .i64 xg, .int .i64 xa, .int .i64 xb, .int .i64 xd, .slice A1 l1 j1, .int .i64 xo, .int .i64 ya, .int .i64 yb, .int .i64 yd, .slice A2 l2 j2, .int .i64 za, .int .i64 zb, .int .i64 zd, .slice A3 l3 j3]) (t := 55) (fr := (0, 0)) (blkA _ _ hsd)) (by simp [Value.oneCell']) (by omega) (by unfold maxLen; omega) (by omega) (by simp; omega) (w.heap.size + 2) (by simp; exact hs0) ?_; intro gg cap w1 hown1 hgrow hat hlt1; have k3 := grown_blk hgrow (b := g) (blkUp k0 _) (fun e => hEg g e rfl); have hcz := row_of k3 1; have hfz := frozen_of k3 1; have HL := Lib.hid (lay_grown hgrow (blkUp k0 _) (hHd.out.alloc _) hbg hEg hHg hown1 (w.heap.size + 2) (by simp; exact hs0) hat); have HB := Lib.hid (below_grown hgrow (by first | exact (hB0.alloc hB0.size _).drew | exact hB0.drew.alloc hB0.size _) (Nat.le_of_lt (Nat.lt_of_le_of_lt hbg hlt)) (fun b hb => (hE.out.lt b hb).1)); clear k3 hown1 hgrow hat))
  all_goals
    go_end0
    exact ⟨rfl, HL.out, HB.out.setCell hbg _⟩
end
end Go.Proofs.Ytnejbjeomcenoaa

