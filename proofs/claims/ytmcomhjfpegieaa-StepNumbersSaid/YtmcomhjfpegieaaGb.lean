/-
  Rows of edges in memory: what is kept where something grows; what the seat's types are.
-/
import Derived.Test.YtmcomhjfpegieaaFd
import Derived.Deep.AppendLies
import Derived.Deep.RegionLaw
import Derived.Deep.QuietTactic
import Derived.BigQuiet
import Derived.RegionTactic
import Derived.StillTailTactics
import Derived.Great.Walk
namespace Go.Proofs.Ytmcomhjfpegieaa
open Go.RowKit

theorem info_edge : (Try.prog.info? 28).map (·.size) = some 19 := by kernel_rfl
theorem info_edge' : (Try.prog.info? 28).map (fun i => (i.zero, i.size, i.bytes)) = some (some (.agg #[.int .i64 0, .int .i64 0, .int .i64 0, .int .i64 0, .int .i64 0, .int .i64 0, .int .i64 0, .int .i64 0, .int .i64 0, .slice none 0 0, .int .i64 0, .int .i64 0, .int .i64 0, .int .i64 0, .slice none 0 0, .int .i64 0, .int .i64 0, .int .i64 0, .slice none 0 0]), 19, 200) := by kernel_rfl
theorem grown_blk {W w1 : World} {own : Option Nat} {b : Nat} {x : Obj} (h : W.grownBy w1 own) (hb : W.heap[b]? = some x) (hne : own ≠ some b) : w1.heap[b]? = some x := (h.block b (blk_lt hb) (fun e => hne e.symm)).trans hb
theorem frozen_of {W : World} {b : Nat} {R : Array Value} {t : TypeId} (h : W.heap[b]? = some (.cells R t (0, 0))) (o : Nat) : W.frozen? ⟨b, o, none⟩ = false := by simp [World.frozen?, h]
theorem below_grown {B : Nat} {w W w1 : World} {own : Option Nat} (hgrow : W.grownBy w1 own) (hb : Below w.heap.size w W) (hB : B ≤ w.heap.size) (ho : ∀ b, own = some b → B ≤ b) : Below B w w1 := (hb.mono hB).grown hgrow (Nat.le_trans hB hb.size) ho
theorem still_ld_mid {P : Program} {ops : Array Oper} {rest : List Oper} {o : Oper} {a : Act} {w : World} {Q : Act → Prop} (ty : TypeId) (x : Operand) (ho : o.op = .load ty x)
    (b k : Nat) (hx : a.eval x = .pointer (some ⟨b, k, none⟩)) (cs : List Value) (d : TypeDesc) (hc : w.rangeAt b k cs)
    (hu : P.underlying ty = some d) (hd : d.isRow = true) (hi : (P.info? ty).map (·.size) = some cs.length) (hw : Region.wanted o (yielded ops a.tmps) = true)
    (h : wpStill P ops w Q rest (a.put o.dst (.agg cs.toArray))) : wpStill P ops w Q (o :: rest) a := by
  unfold wpStill
  rw [if_pos hw]
  unfold Oper.still execOp
  simp only [ho, hx, Instr.loadAt, Instr.sureAddr, Sem.run_bind, Sem.run_pure, Result.andThen_ok, run_loadVar_mid w b k ty cs d hc hu hd hi]
  exact ⟨rfl, h⟩
/-- The cells of an edge. -/
def LoadS (t : TypeId) (v : Value) : Sem Value := Instr.loadAt t v
theorem to_LoadS (v : Value) : Instr.loadAt 28 v = LoadS 28 v := rfl
theorem info_graph : (Try.prog.info? 32).map (fun i => (i.zero, i.size, i.bytes)) = some (some (.agg #[.int .i64 0, .slice none 0 0, .slice none 0 0]), 3, 56) := by kernel_rfl
theorem info_int : (Try.prog.info? 3).map (fun i => (i.zero, i.size, i.bytes)) = some (some (.int .i64 0), 1, 8) := by kernel_rfl
theorem own_form' {w : World} {b : Nat} {e : TypeId} {size n ce : Nat} {A : Option Addr} {xs : List Value} (h : w.ownsRow b e size (.slice A (n + 1) ce) (n + 1) xs) : ∃ g, A = some ⟨g, 0, none⟩ := by
  rcases h.2 with ⟨_, h0⟩ | ⟨g, cap, cur, hv, _⟩
  · omega
  · injection hv with h1 h2 h3
    exact ⟨g, h1⟩
theorem own_cap {w : World} {b g : Nat} {e : TypeId} {size n ce : Nat} {xs : List Value} (h : w.ownsRow b e size (.slice (some ⟨g, 0, none⟩) n ce) n xs) : n ≤ ce := by
  rcases h.2 with ⟨h1, _⟩ | ⟨_, _, _, h1, _, _, h2, _⟩
  · cases h1
  · cases h1; exact h2
theorem blk_set {W : World} {b g o : Nat} {x : Obj} {v : Value} (h : W.heap[b]? = some x) (hne : b ≠ g) : (W.setCell ⟨g, o, none⟩ v).heap[b]? = some x := by
  rw [Below.heap_setCell _ _ _ _ hne]
  exact h
theorem own_set {w : World} {b : Nat} {e : TypeId} {size n : Nat} {v : Value} {xs : List Value} (h : w.ownsRow b e size v n xs) {g o : Nat} {x : Value} (hg : g < b) : (w.setCell ⟨g, o, none⟩ x).ownsRow b e size v n xs := by
  have hset : w.grownBy (w.setCell ⟨g, o, none⟩ x) (some g) := ⟨rfl, rfl, rfl, by simp, fun i hi hne => Below.heap_setCell _ _ _ _ (by rintro rfl; exact hne rfl)⟩
  refine h.kept hset ?_
  cases hh : v.ownBlock with
  | none => exact .inl rfl
  | some k => exact .inr (fun e => by have := (h.lt k hh).1; simp at e; omega)
end Go.Proofs.Ytmcomhjfpegieaa
