/-
  check's tests of what is nothing: blocks of memory that are kept over calls.
-/
import Derived.Test.YtmcomhjfpegieaaFa
import Derived.Deep.WholeRow
import Derived.Great.BuildSlice
import Derived.Deep.Cut
namespace Go.Proofs.Ytmcomhjfpegieaa
open Go.RowKit
theorem bel_up {B : Nat} {w w1 w2 : World} (h1 : Below B w w1) (hB : B ≤ w.heap.size) (h2 : Below w1.heap.size w1 w2) : Below B w w2 := h1.trans (h2.mono (Nat.le_trans hB h1.size))
theorem blk_lt {W : World} {b : Nat} {x : Obj} (h : W.heap[b]? = some x) : b < W.heap.size := by
  rcases Nat.lt_or_ge b W.heap.size with h1 | h1
  · exact h1
  · rw [Array.getElem?_eq_none h1] at h; cases h
theorem blkA (W : World) (x : Obj) {b : Nat} (h : W.heap.size = b) : (W.alloc x).heap[b]? = some x := by
  subst h
  exact heap_alloc_new W x
theorem blk_keep {W W1 : World} {b : Nat} {x : Obj} (hb : Below W.heap.size W W1) (h : W.heap[b]? = some x) : W1.heap[b]? = some x := (hb.block b (blk_lt h)).trans h
theorem blkUp {W : World} {b : Nat} {x : Obj} (h : W.heap[b]? = some x) (ob : Obj) : (W.alloc ob).heap[b]? = some x := blk_keep ((Below.refl _ W).alloc (Nat.le_refl _) ob) h
theorem row_of {W : World} {b : Nat} {R : Array Value} {t : TypeId} {fr : Nat × Nat} (h : W.heap[b]? = some (.cells R t fr)) : ∀ o, W.cell? ⟨b, o, none⟩ = R[o]? := fun o => cell_of_row W b o R t fr h
theorem info_st : (Try.prog.info? 121).map (·.size) = some 20 := by kernel_rfl
theorem wpList_store_new {P : Program} {ops : Array Oper} {rest : List Oper} {o : Oper} {a : Act} {w : World} {Q : Exit → Act → World → Prop} (hgd : o.guard = none) (ty : TypeId) (x y : Operand) (ho : o.op = .store ty x y)
    (hd : o.dst = none) (W : World) (b : Nat) (c cells : Array Value) (hw : w = W.alloc (.cells c ty)) (hb : W.heap.size = b) (hx : a.eval x = .pointer (some ⟨b, 0, none⟩)) (hy : a.eval y = .agg cells)
    (hi : (P.info? ty).map (·.size) = some cells.size) (hold : c.size = cells.size) (h1 : cells.all (·.oneCell') = true)
    (h : wpList P ops Q rest a (W.alloc (.cells cells ty))) : wpList P ops Q (o :: rest) a w := by
  subst hw hb
  refine wpList_plain hgd fun _ hK => ?_
  unfold Oper.wp execOp
  simp only [ho, hx, hy, run_storeAt_new W ty c cells hi hold h1, Sem.run_bind, Sem.run_pure, Result.andThen_ok]
  have e : a.put o.dst undef = a := by rw [hd]; rfl
  have h2 := hK _ _ h
  rw [← e] at h2
  exact h2
theorem ld_row {P : Program} {ops : Array Oper} {rest : List Oper} {o : Oper} {a : Act} {w : World} {Q : Exit → Act → World → Prop} (ty : TypeId) (x : Operand) (ho : o.op = .load ty x)
    (g : Nat) (hx : a.eval x = .pointer (some ⟨g, 0, none⟩)) (t : TypeId) (cs : Array Value) (fr : Nat × Nat) (d : TypeDesc) (hg : w.heap[g]? = some (.cells cs t fr))
    (hu : P.underlying ty = some d) (hd : (match d with | .struct _ | .array _ _ => true | _ => false) = true) (hi : (P.info? ty).map (·.size) = some cs.size) (hw : Region.wanted o (yielded ops a.tmps) = true)
    (h : wpList P ops Q rest (a.put o.dst (.agg cs)) w) : wpList P ops Q (o :: rest) a w :=
  BigFrame.wpList_want hw fun _ hK => wp_load_row ty x ho g hx t cs fr d hg hu hd hi (hK _ _ h)
theorem wp_world {P : Program} {c : Code} {Q : Exit → Act → World → Prop} {a : Act} {w : World} (F : World → Prop) (hF : F w) (h : ∀ W, F W → c.wp P Q a W) : c.wp P Q a w := h w hF


set_option maxHeartbeats 1000000 in
theorem nothing_any (w : World) :
    Calls Try.prog 78 #[.agg #[.int .i64 0, .int .i64 0, .int .i64 0, .int .i64 0, .int .i64 0, .int .i64 0, .int .i64 0, .slice none 0 0, .int .i64 0, .int .i64 0, .int .i64 0, .int .i64 0, .slice none 0 0, .int .i64 0, .int .i64 0, .int .i64 0, .slice none 0 0, .slice none 0 0, .slice none 0 0, .slice none 0 0]] w fun e w' => e = .returned (.bool true) ∧ Below w.heap.size w w' := by
  go_enter Try.func78, Try.ntmps78
  go_wp2_with fail
  refine (exprNothing_any _).mono ?_
  rintro e w1 ⟨rfl, hb1⟩
  have k1_0 := Lib.hid (blk_keep hb1 (b := w.heap.size) (blkA _ _ (by simp only [World.size_alloc])))
  have hB1 : Below w.heap.size w w1 := bel_up (by go_grown) (Nat.le_refl _) hb1
  have hz1 : w.heap.size + 1 ≤ w1.heap.size := by have := hb1.size; simp only [World.size_alloc] at this; omega
  clear hb1
  have r1_0 := row_of k1_0.out
  go_wp2_with fail
  refine (exprNothing_any _).mono ?_
  rintro e w2 ⟨rfl, hb2⟩
  have k2_0 := Lib.hid (blk_keep hb2 k1_0.out)
  have hB2 : Below w.heap.size w w2 := bel_up hB1 (Nat.le_refl _) hb2
  have hz2 : w.heap.size + 1 ≤ w2.heap.size := Nat.le_trans hz1 hb2.size
  clear hb2 hB1 hz1 k1_0 r1_0
  have r2_0 := row_of k2_0.out
  go_wp2_with fail
  refine (exprNothing_any _).mono ?_
  rintro e w3 ⟨rfl, hb3⟩
  have k3_0 := Lib.hid (blk_keep hb3 k2_0.out)
  have hB3 : Below w.heap.size w w3 := bel_up hB2 (Nat.le_refl _) hb3
  have hz3 : w.heap.size + 1 ≤ w3.heap.size := Nat.le_trans hz2 hb3.size
  clear hb3 hB2 hz2 k2_0 r2_0
  have r3_0 := row_of k3_0.out
  go_wp2_with fail
  go_ret
  exact ⟨rfl, hB3⟩

end Go.Proofs.Ytmcomhjfpegieaa
