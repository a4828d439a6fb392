/-
  strings.Builder: what the writing methods and String do, and what they leave as it was.
-/
import Derived.Test.YtomodncooiddaaaDoorLeaf
import Derived.Test.YtomodncooiddaaaDoorLs
import Derived.Lib.Strings
import Derived.Lib.Walk
import Derived.Lib.BufferWrite
import Derived.Lib.UnsafeStr
import Derived.Laws.MakeOwn
import Derived.Lib.FrozenHead2
namespace Go.Proofs.YtomodncooiddaaaDoor
open Go.RowKit
/-- A row grown in its place, or a new one. -/
def SameOrNew (w : World) (v v' : Value) : Prop := v'.ownBlock = v.ownBlock ∨ ∀ g, v'.ownBlock = some g → w.heap.size ≤ g
theorem ok_inj {α : Type} {a b : α} {w w2 : World} (h : Result.ok a w = Result.ok b w2) : a = b ∧ w = w2 := by
  cases h; exact ⟨rfl, rfl⟩
/-- A row of bytes: none, or the first ones of a block. -/
def RowB (w : World) (e : TypeId) (v : Value) (n : Nat) (bs : List Value) : Prop := bs.length = n ∧ ((v = .slice none 0 0 ∧ n = 0) ∨
  ∃ g cap cur, v = .slice (some ⟨g, 0, none⟩) n cap ∧ w.heap[g]? = some (.cells cur e (0, 0)) ∧ n ≤ cap ∧ cap ≤ cur.size ∧ cur.toList.take n = bs)
theorem rowB_of {w : World} {e : TypeId} {v : Value} {n : Nat} {bs : List Value} (h : w.ownsRow 0 e 1 v n bs) : RowB w e v n bs := by
  refine ⟨by simpa using h.1, h.2.imp (fun h => h) ?_⟩
  rintro ⟨g, cap, cur, rfl, _, hg, h1, _, h2, h3⟩
  exact ⟨g, cap, cur, rfl, hg, h1, by omega, by simpa using h3⟩
theorem rowB_cells {w : World} {e : TypeId} {g n cap : Nat} {bs : List Value} (h : RowB w e (.slice (some ⟨g, 0, none⟩) n cap) n bs) (j : Nat) (u : Value) (hu : bs[j]? = some u) : w.cell? ((⟨g, 0, none⟩ : Addr).add j) = some u := by
  rcases h.2 with ⟨hv, _⟩ | ⟨g', cap', cur, hv, hg, h1, h2, h3⟩
  · cases hv
  · cases hv
    have ea : (⟨g, 0, none⟩ : Addr).add j = ⟨g, j, none⟩ := by unfold Addr.add; split <;> simp_all
    rw [ea, Lib.cell_of_heap hg]
    rw [← h3] at hu
    have hj := (List.getElem?_eq_some_iff.1 hu).1
    rw [List.length_take] at hj
    rw [List.getElem?_take_of_lt (by omega)] at hu
    simpa using hu
theorem grown_new {w : World} {e : TypeId} {xs news : List Value} {n m c : Nat} (hx : xs.length = n) (hn : news.length = m) (hc : n + m ≤ c) :
    RowB (w.drew.alloc (.cells (xs.toArray ++ news.toArray ++ Builtin.zeroCells (Value.int .u8 0).cells (c - (n + m))) e)) e (.slice (some ⟨w.heap.size, 0, none⟩) (n + m) c) (n + m) (xs ++ news) ∧
    w.grownBy (w.drew.alloc (.cells (xs.toArray ++ news.toArray ++ Builtin.zeroCells (Value.int .u8 0).cells (c - (n + m))) e)) none ∧ ∀ row, w.grownBy (w.drew.alloc (.cells (xs.toArray ++ news.toArray ++ Builtin.zeroCells (Value.int .u8 0).cells (c - (n + m))) e)) row := by
  have hg : ∀ row, w.grownBy (w.drew.alloc (.cells (xs.toArray ++ news.toArray ++ Builtin.zeroCells (Value.int .u8 0).cells (c - (n + m))) e)) row := fun row => ⟨rfl, rfl, rfl, by simp, fun k hk _ => Lib.alloc_old w.drew _ k hk⟩
  refine ⟨⟨by rw [List.length_append, hx, hn], .inr ⟨w.heap.size, c, _, rfl, heap_alloc_new w.drew _, hc, ?_, ?_⟩⟩, hg none, hg⟩
  · have hz : (Value.int IntKind.u8 0).cells.size = 1 := rfl
    simp only [Array.size_append, List.size_toArray, size_zeroCells, hz, hx, hn]
    omega
  · simp only [Array.toList_append]
    have hl : (xs ++ news).length = n + m := by rw [List.length_append, hx, hn]
    rw [← hl]
    exact List.take_left
theorem app_str {P : Program} (w : World) (t u ty e : TypeId) (i : TypeInfo) (ht : P.underlying t = some (.slice e)) (hu : P.underlying u = some .string) (hi : P.info? e = some i) (hz : i.zero = some (.int .u8 0)) (hsize : i.size = 1) (hby : i.bytes = 1)
    (v : Value) (n : Nat) (xs : List Value) (hown : RowB w e v n xs) (s : ByteArray) (hb : n + s.size ≤ 140737488355328) :
    ∃ v' w', (Builtin.append_ #[t, u] ty #[v, .string s]).run P w = .ok v' w' ∧ RowB w' e v' (n + s.size) (xs ++ Lib.strCells s) ∧ w.grownBy w' v.ownBlock ∧ SameOrNew w v v' := by
  have hxl := hown.1
  rcases hown.2 with ⟨rfl, rfl⟩ | ⟨g, cap, cur, rfl, hg, hnc, hcs, htake⟩
  · obtain rfl := List.eq_nil_of_length_eq_zero hxl
    obtain ⟨v', w', h1, h2, h3, h4⟩ := Lib.run_append_own_string (P := P) w 0 t u ty e i ht hu hi hz hsize hby _ 0 [] (World.ownsRow_nil w 0 e 1) s (by unfold maxLen; omega) hb (Nat.zero_le _)
    refine ⟨v', w', h1, rowB_of h2, h3, ?_⟩
    by_cases hm : s.size = 0
    · left
      rw [h4.2 ⟨rfl, hm⟩]
    · right
      have hr := run_append_nil_string (P := P) w t u ty e i (.int .u8 0) ht hu hi hz s (by omega) (by omega) (by rw [hby]; omega)
      rw [hr] at h1
      obtain ⟨e1, _⟩ := ok_inj h1
      intro g hg
      rw [← e1] at hg
      have hg : some w.heap.size = some g := hg
      have := Option.some.inj hg
      omega
  · by_cases hroom : n + s.size ≤ cap
    · have hr := Lib.run_append_room_string (P := P) w t u ty e i ht hu hi hsize g n cap cur hg s hroom (by omega)
      refine ⟨_, _, hr, ⟨by rw [List.length_append, Lib.strCells_length, hxl], .inr ⟨g, cap, _, rfl, setRow_heap w g cur _ e _ hg, hroom, ?_, ?_⟩⟩, ⟨rfl, rfl, rfl, by simp, fun k _ hk => setRow_other w g k _ (fun e => hk (by simp [Value.ownBlock, e]))⟩, .inl rfl⟩
      · simp only [List.size_toArray, List.length_append, List.length_take, List.length_drop, Array.length_toList, Lib.strCells_length]
        omega
      · rw [htake]
        have hl : (xs ++ Lib.strCells s).length = n + s.size := by rw [List.length_append, Lib.strCells_length, hxl]
        show List.take (n + s.size) (xs ++ Lib.strCells s ++ _) = _
        rw [← hl]
        exact List.take_left
    · have hr := Lib.run_append_grow_string (P := P) w t u ty e i (.int .u8 0) ht hu hi hz ⟨g, 0, none⟩ n cap xs (by rw [hsize]; simpa using hxl) (rowB_cells hown) s (by omega) (by omega) (by rw [hby]; exact growslice_fits (by omega) (by omega))
      obtain ⟨a, _, b⟩ := grown_new (w := w) (e := e) (c := grownCap w (n + s.size) cap e) hxl (Lib.strCells_length s) (grownCap_ge w (n + s.size) cap e)
      exact ⟨_, _, hr, a, b _, .inr fun g' hg' => by
        have hg' : some w.heap.size = some g' := hg'
        have := Option.some.inj hg'
        omega⟩
theorem app_byte {P : Program} (w : World) (t ty e : TypeId) (i : TypeInfo) (ht : P.underlying t = some (.slice e)) (hi : P.info? e = some i) (hz : i.zero = some (.int .u8 0)) (hsize : i.size = 1) (hby : i.bytes = 1)
    (v : Value) (n : Nat) (xs : List Value) (hown : RowB w e v n xs) (a : Addr) (c : Int) (hc : w.cell? a = some (.int .u8 c)) (hb : n + 1 ≤ 140737488355328) :
    ∃ v' w', (Builtin.append_ #[t, t] ty #[v, .slice (some a) 1 1]).run P w = .ok v' w' ∧ RowB w' e v' (n + 1) (xs ++ [.int .u8 c]) ∧ w.grownBy w' v.ownBlock ∧ SameOrNew w v v' := by
  have hnews : ∀ j u, [Value.int .u8 c][j]? = some u → w.cell? (a.add j) = some u := fun j u hj => by
    match j, hj with
    | 0, hj =>
      obtain rfl : Value.int .u8 c = u := by simpa using hj
      simpa [Addr.add] using hc
  have h1c : ∀ u ∈ [Value.int .u8 c], u.oneCell' = true := fun u hu => by
    obtain rfl := List.mem_singleton.1 hu
    rfl
  have hxl := hown.1
  rcases hown.2 with ⟨rfl, rfl⟩ | ⟨g, cap, cur, rfl, hg, hnc, hcs, htake⟩
  · obtain rfl := List.eq_nil_of_length_eq_zero hxl
    obtain ⟨v', w', h1, h2, h3, _⟩ := run_append_own (P := P) w 0 t ty e i (.int .u8 0) 1 1 ht hi hz hsize hby rfl (by decide) _ 0 [] (World.ownsRow_nil w 0 e 1) a 1 1 [.int .u8 c] rfl hnews h1c (by unfold maxLen; omega) (by omega) (Nat.zero_le _)
    refine ⟨v', w', h1, rowB_of h2, h3, .inr ?_⟩
    have hr := run_append_nil (P := P) w t ty e i (.int .u8 0) ht hi hz a 1 1 [.int .u8 c] (by rw [hsize]; rfl) hnews (by decide) (by decide) (by rw [hby]; decide)
    rw [hr] at h1
    obtain ⟨e1, _⟩ := ok_inj h1
    intro g hg
    rw [← e1] at hg
    have hg : some w.heap.size = some g := hg
    have := Option.some.inj hg
    omega
  · by_cases hroom : n + 1 ≤ cap
    · have hr := run_append_room (P := P) w t ty e i ht hi g n cap cur hg a 1 1 [.int .u8 c] (by rw [hsize]; rfl) hnews h1c hroom (by rw [hsize]; show n * 1 + 1 ≤ cur.size; omega)
      refine ⟨_, _, hr, ⟨by rw [List.length_append, hxl]; rfl, .inr ⟨g, cap, _, rfl, setRow_heap w g cur _ e _ hg, hroom, ?_, ?_⟩⟩, ⟨rfl, rfl, rfl, by simp, fun k _ hk => setRow_other w g k _ (fun e => hk (by simp [Value.ownBlock, e]))⟩, .inl rfl⟩
      · simp only [hsize, List.size_toArray, List.length_append, List.length_take, List.length_drop, Array.length_toList, List.length_cons, List.length_nil]
        omega
      · rw [hsize, Nat.mul_one, htake]
        have hl : (xs ++ [Value.int .u8 c]).length = n + 1 := by rw [List.length_append, hxl]; rfl
        show List.take (n + 1) (xs ++ [Value.int .u8 c] ++ _) = _
        rw [← hl]
        exact List.take_left
    · have hr := run_append_grow (P := P) w t ty e i (.int .u8 0) ht hi hz ⟨g, 0, none⟩ n cap xs (by rw [hsize]; simpa using hxl) (rowB_cells hown) a 1 1 [.int .u8 c] (by rw [hsize]; rfl) hnews (by omega) (by omega) (by rw [hby]; exact growslice_fits (by omega) (by omega))
      obtain ⟨q1, _, q2⟩ := grown_new (w := w) (e := e) (news := [.int .u8 c]) (c := grownCap w (n + 1) cap e) hxl rfl (grownCap_ge w (n + 1) cap e)
      exact ⟨_, _, hr, q1, q2 _, .inr fun g' hg' => by
        have hg' : some w.heap.size = some g' := hg'
        have := Option.some.inj hg'
        omega⟩
theorem wpl_str {P : Program} {ops : Array Oper} {rest : List Oper} {o : Oper} {a : Act} {Q : Exit → Act → World → Prop} {w : World} (hgd : o.guard = none) (sl x : Operand) (t u : TypeId)
    (ho : o.op = .call { callee := .builtin .append, args := #[sl, x], argTypes := #[t, u] }) (e : TypeId) (i : TypeInfo) (ht : P.underlying t = some (.slice e)) (hu : P.underlying u = some .string) (hi : P.info? e = some i) (hz : i.zero = some (.int .u8 0))
    (hsize : i.size = 1) (hby : i.bytes = 1) (v : Value) (n : Nat) (xs : List Value) (hs : a.eval sl = v) (hown : RowB w e v n xs) (s : ByteArray) (hx : a.eval x = .string s) (hb : n + s.size ≤ 140737488355328)
    (h : ∀ v' w', RowB w' e v' (n + s.size) (xs ++ Lib.strCells s) → w.grownBy w' v.ownBlock → SameOrNew w v v' → wpList P ops Q rest (a.put o.dst v') w') : wpList P ops Q (o :: rest) a w := by
  refine wpList_plain hgd fun K hK => ?_
  obtain ⟨v', w', hr, h2, h3, h4⟩ := app_str (P := P) w t u o.type e i ht hu hi hz hsize hby v n xs hown s hb
  have hrun : (execOp a.eval o).run P w = .ok (.value v') w' := by
    obtain ⟨dst, op, ty, pos, after, guard⟩ := o
    obtain rfl : op = _ := ho
    show ((do pure (.value (← Builtin.append_ #[t, u] ty (#[sl, x].map a.eval))) : Sem Next)).run P w = _
    rw [show #[sl, x].map a.eval = #[v, .string s] by simp [hs, hx], Sem.run_bind, hr]
    rfl
  unfold Oper.wp
  rw [hrun]
  exact hK _ _ (h v' w' h2 h3 h4)
theorem wpl_byte {P : Program} {ops : Array Oper} {rest : List Oper} {o : Oper} {a : Act} {Q : Exit → Act → World → Prop} {w : World} (hgd : o.guard = none) (sl x : Operand) (t : TypeId)
    (ho : o.op = .call { callee := .builtin .append, args := #[sl, x], argTypes := #[t, t] }) (e : TypeId) (i : TypeInfo) (ht : P.underlying t = some (.slice e)) (hi : P.info? e = some i) (hz : i.zero = some (.int .u8 0))
    (hsize : i.size = 1) (hby : i.bytes = 1) (v : Value) (n : Nat) (xs : List Value) (hs : a.eval sl = v) (hown : RowB w e v n xs) (ad : Addr) (c : Int) (hx : a.eval x = .slice (some ad) 1 1) (hc : w.cell? ad = some (.int .u8 c)) (hb : n + 1 ≤ 140737488355328)
    (h : ∀ v' w', RowB w' e v' (n + 1) (xs ++ [.int .u8 c]) → w.grownBy w' v.ownBlock → SameOrNew w v v' → wpList P ops Q rest (a.put o.dst v') w') : wpList P ops Q (o :: rest) a w := by
  refine wpList_plain hgd fun K hK => ?_
  obtain ⟨v', w', hr, h2, h3, h4⟩ := app_byte (P := P) w t o.type e i ht hi hz hsize hby v n xs hown ad c hc hb
  have hrun : (execOp a.eval o).run P w = .ok (.value v') w' := by
    obtain ⟨dst, op, ty, pos, after, guard⟩ := o
    obtain rfl : op = _ := ho
    show ((do pure (.value (← Builtin.append_ #[t, t] ty (#[sl, x].map a.eval))) : Sem Next)).run P w = _
    rw [show #[sl, x].map a.eval = #[v, .slice (some ad) 1 1] by simp [hs, hx], Sem.run_bind, hr]
    rfl
  unfold Oper.wp
  rw [hrun]
  exact hK _ _ (h v' w' h2 h3 h4)

set_option maxHeartbeats 1000000 in
set_option maxRecDepth 100000 in
theorem ck_used (b : Nat) (w : World) (h0 : w.cell? ⟨b, 0, none⟩ = some (.pointer (some ⟨b, 0, none⟩))) :
    Calls Tryd.prog 60 #[.pointer (some ⟨b, 0, none⟩)] w fun e w' => e = .returned (.tuple #[]) ∧ w' = w := by
  obtain ⟨j, hj, _⟩ := Option.map_eq_some_iff.1 Tryd.Builder_Extra_169.sizeBuilder
  go_enter Tryd.func60, Tryd.ntmps60
  go_wp2
  rw [Lib.run_neq_ptr_same w _ Tryd.underlying121 hj]
  go_wp2
  go_end0
  exact ⟨rfl, rfl⟩

set_option maxHeartbeats 1000000 in
set_option maxRecDepth 100000 in
theorem ck_fresh (b : Nat) (w : World) (h0 : w.cell? ⟨b, 0, none⟩ = some (.pointer none)) (hsh : w.shape? b = some (124, 2)) (hfz : w.frozen? ⟨b, 0, none⟩ = false) :
    Calls Tryd.prog 60 #[.pointer (some ⟨b, 0, none⟩)] w fun e w' => e = .returned (.tuple #[]) ∧ w' = w.setCell ⟨b, 0, none⟩ (.pointer (some ⟨b, 0, none⟩)) := by
  obtain ⟨j, hj, hjs⟩ := Option.map_eq_some_iff.1 Tryd.Builder_Extra_169.sizeBuilder
  go_enter Tryd.func60, Tryd.ntmps60
  go_wp2
  rw [Lib.run_to_unsafe w ⟨b, 0, none⟩ Tryd.underlying121 Tryd.underlying170 hj (by rw [hjs]; decide) hsh (Nat.zero_lt_succ 1)]
  simp only [Result.andThen]
  rw [Oper.upon_value]
  go_wp2
  rw [run_callFunc_extern Tryd.func73 (by kernel_rfl) (by kernel_rfl) (by kernel_rfl) (e := Extern.AbiNoEscape.same) (by kernel_rfl)]
  rw [Lib.run_noEscape]
  simp only [Result.andThen]
  rw [Oper.upon_value]
  go_wp2
  rw [Lib.run_from_unsafe w ⟨b, 0, none⟩ Tryd.underlying170 Tryd.underlying121 hj hsh Tryd.Builder_Extra_169.liesBuilder]
  simp only [Result.andThen]
  rw [Oper.upon_value]
  go_wp2
  go_end0
  exact ⟨rfl, rfl⟩
def meP (b : Nat) : Value := .pointer (some ⟨b, 0, none⟩)
/-- A builder: its cells, and its row. -/
structure BdAt (b : Nat) (p v : Value) (bs : List Value) (w : World) : Prop where
  cells : w.heap[b]? = some (.cells #[p, v] 124 (0, 0))
  row : RowB w 5 v bs.length bs
  ne : v.ownBlock ≠ some b
/-- What else there was is as it was. -/
structure BdFr (b : Nat) (v : Value) (w w' : World) : Prop where
  below : Below 0 w w'
  block : ∀ k, k < w.heap.size → k ≠ b → some k ≠ v.ownBlock → w'.heap[k]? = w.heap[k]?
theorem heap_lt' {w : World} {b : Nat} {o : Obj} (h : w.heap[b]? = some o) : b < w.heap.size := (Array.getElem?_eq_some_iff.1 h).1
theorem owns_keep {w w' : World} {v : Value} {n : Nat} {xs : List Value} (h : RowB w 5 v n xs) (hk : ∀ g, v.ownBlock = some g → w'.heap[g]? = w.heap[g]?) : RowB w' 5 v n xs := by
  refine ⟨h.1, h.2.imp (fun h => h) ?_⟩
  rintro ⟨g, cap, cur, rfl, hg, h1⟩
  exact ⟨g, cap, cur, rfl, by rw [hk g rfl]; exact hg, h1⟩
theorem ck_any (b : Nat) (p v : Value) (hp : p = .pointer none ∨ p = meP b) (bs : List Value) (w : World) (h : BdAt b p v bs w) :
    Calls Tryd.prog 60 #[.pointer (some ⟨b, 0, none⟩)] w fun e w' => e = .returned (.tuple #[]) ∧ BdAt b (meP b) v bs w' ∧ Below 0 w w' ∧ w'.heap.size = w.heap.size ∧ ∀ k, k ≠ b → w'.heap[k]? = w.heap[k]? := by
  have hc := h.cells
  have c0 : w.cell? ⟨b, 0, none⟩ = some p := by rw [Lib.cell_of_heap hc]; rfl
  rcases hp with rfl | rfl
  · refine (ck_fresh b w c0 (by simp [World.shape?, hc]) (Lib.frozen_of_heap hc 0)).mono ?_
    rintro e w' ⟨rfl, rfl⟩
    have hne : ∀ k, k ≠ b → (w.setCell ⟨b, 0, none⟩ (.pointer (some ⟨b, 0, none⟩))).heap[k]? = w.heap[k]? := fun k hk => Below.heap_setCell w ⟨b, 0, none⟩ _ k hk
    have hset : (w.setCell ⟨b, 0, none⟩ (.pointer (some ⟨b, 0, none⟩))).heap[b]? = some (.cells #[meP b, v] 124 (0, 0)) := by
      rw [heap_setCell_same w b 0 _ _ _ hc]; rfl
    exact ⟨rfl, ⟨hset, owns_keep h.row fun g hg => hne g fun e => h.ne (by rw [hg, e]), h.ne⟩, (Below.refl 0 w).setCell (p := ⟨b, 0, none⟩) (Nat.zero_le _) _, World.size_setCell .., hne⟩
  · refine (ck_used b w c0).mono ?_
    rintro e w' ⟨rfl, rfl⟩
    exact ⟨rfl, h, Below.refl 0 _, rfl, fun _ _ => rfl⟩

set_option maxHeartbeats 2000000 in
set_option maxRecDepth 100000 in
theorem ws_k (b : Nat) (p v : Value) (hp : p = .pointer none ∨ p = meP b) (bs : List Value) (s : ByteArray) (w : World) (h : BdAt b p v bs w) (hlen : bs.length + s.size ≤ 140737488355328) :
    Calls Tryd.prog 30 #[.pointer (some ⟨b, 0, none⟩), .string s] w fun e w' => e = .returned (.tuple #[.int .i64 s.size, .nilIface]) ∧ ∃ v', BdAt b (meP b) v' (bs ++ Lib.strCells s) w' ∧ BdFr b v w w' ∧ SameOrNew w v v' := by
  obtain ⟨i0, hi, hz0, hz1, hz2⟩ := info_parts Tryd.Builder_Extra_169.infoByte
  go_enter Tryd.func30, Tryd.ntmps30
  go_wp2_with (go_at_call 60; refine (ck_any b p v hp bs _ h).mono ?_)
  rintro e w1 ⟨rfl, h1, hb1, hs1, hk1⟩
  replace hs1 := hs1.symm
  have hbk := h1.cells
  have hown := h1.row
  have hne := h1.ne
  have c0 : w1.cell? ⟨b, 0, none⟩ = some (meP b) := by rw [Lib.cell_of_heap hbk]; rfl
  have c1 : w1.cell? ⟨b, 1, none⟩ = some v := by rw [Lib.cell_of_heap hbk]; rfl
  unfold meP at c0
  go_wp2_with (at_builtin; refine wpl_str rfl _ _ 122 9 rfl 5 i0 Tryd.underlying122 Tryd.underlying9 hi hz0 hz1 hz2 _ _ _ rfl hown s rfl ?c4 ?_)
  case c4 => omega
  intro v' w2 hown' hgrow hsn
  have hlt : b < w1.heap.size := heap_lt' hbk
  have hb2 : w2.heap[b]? = some (.cells #[meP b, v] 124 (0, 0)) := by
    rw [hgrow.block b hlt (fun e => hne e.symm)]; exact hbk
  have d0 : w2.cell? ⟨b, 0, none⟩ = some (meP b) := by rw [Lib.cell_of_heap hb2]; rfl
  have d1 : w2.cell? ⟨b, 1, none⟩ = some v := by rw [Lib.cell_of_heap hb2]; rfl
  have f1 : w2.frozen? ⟨b, 1, none⟩ = false := Lib.frozen_of_heap hb2 1
  unfold meP at d0
  obtain ⟨ao, n', cap, rfl⟩ : ∃ ao n' cap, v' = .slice ao n' cap := by
    rcases hown'.2 with ⟨hv, _⟩ | ⟨g, cap, cur, hv, _⟩ <;> exact ⟨_, _, _, hv⟩
  go_wp2
  go_ret2
  have hne' : (Value.slice ao n' cap).ownBlock ≠ some b := by
    rcases hsn with e | e
    · rw [e]; exact hne
    · intro e2
      have := e b e2
      omega
  have hset : (w2.setCell ⟨b, 1, none⟩ (.slice ao n' cap)).heap[b]? = some (.cells #[meP b, .slice ao n' cap] 124 (0, 0)) := by
    rw [heap_setCell_same w2 b 1 _ _ _ hb2]; rfl
  have hk2 : ∀ k, k ≠ b → (w2.setCell ⟨b, 1, none⟩ (.slice ao n' cap)).heap[k]? = w2.heap[k]? := fun k hk => Below.heap_setCell w2 ⟨b, 1, none⟩ _ k hk
  refine ⟨rfl, _, ⟨hset, ?_, hne'⟩, ⟨?_, fun k hk hkb hkv => ?_⟩, ?_⟩
  · have hl : (bs ++ Lib.strCells s).length = bs.length + s.size := by rw [List.length_append, Lib.strCells_length]
    rw [hl]
    exact owns_keep hown' fun g hg => hk2 g fun e => hne' (by rw [hg, e])
  · exact hb1.trans (Below.setCell (p := ⟨b, 1, none⟩) ⟨hgrow.os, hgrow.tape, hgrow.output, hgrow.size, fun k hk => absurd hk (Nat.not_lt_zero k)⟩ (Nat.zero_le _) _)
  · rw [hk2 k hkb, hgrow.block k (by omega) hkv, hk1 k hkb]
  · rcases hsn with e | e
    · exact .inl e
    · exact .inr fun g hg => by have := e g hg; omega

set_option maxHeartbeats 2000000 in
set_option maxRecDepth 100000 in
theorem wb_k (b : Nat) (p v : Value) (hp : p = .pointer none ∨ p = meP b) (bs : List Value) (c : Int) (w : World) (h : BdAt b p v bs w) (hlen : bs.length + 1 ≤ 140737488355328) :
    Calls Tryd.prog 31 #[.pointer (some ⟨b, 0, none⟩), .int .u8 c] w fun e w' => e = .returned .nilIface ∧ ∃ v', BdAt b (meP b) v' (bs ++ [.int .u8 c]) w' ∧ BdFr b v w w' ∧ SameOrNew w v v' := by
  obtain ⟨i0, hi, hz0, hz1, hz2⟩ := info_parts Tryd.Builder_Extra_169.infoByte
  go_enter Tryd.func31, Tryd.ntmps31
  go_wp2_with (go_at_call 60; refine (ck_any b p v hp bs _ h).mono ?_)
  rintro e w1 ⟨rfl, h1, hb1, hs1, hk1⟩
  replace hs1 := hs1.symm
  have hbk := h1.cells
  have hown := h1.row
  have hne := h1.ne
  have hlt : b < w1.heap.size := heap_lt' hbk
  have c0 : w1.cell? ⟨b, 0, none⟩ = some (meP b) := by rw [Lib.cell_of_heap hbk]; rfl
  have c1 : w1.cell? ⟨b, 1, none⟩ = some v := by rw [Lib.cell_of_heap hbk]; rfl
  unfold meP at c0
  have hown1 : ∀ o : Obj, RowB (w1.alloc o) 5 v bs.length bs := fun o => owns_keep hown fun g hg => by
    rcases hown.2 with ⟨rfl, _⟩ | ⟨g2, _, _, rfl, hg2, _⟩
    · cases hg
    · have hg : some g2 = some g := hg
      obtain rfl := Option.some.inj hg
      exact Lib.alloc_old w1 _ _ (heap_lt' hg2)
  go_wp2_with (at_builtin; refine wpl_byte rfl _ _ 122 rfl 5 i0 Tryd.underlying122 hi hz0 hz1 hz2 _ _ _ rfl (hown1 _) ⟨w1.heap.size, 0, none⟩ c rfl ?c1 ?c4 ?_)
  case c1 => simp
  case c4 => omega
  intro v' w2 hown' hgrow hsn
  have hb2 : w2.heap[b]? = some (.cells #[meP b, v] 124 (0, 0)) := by
    rw [hgrow.block b (by simp; omega) (fun e => hne e.symm), Lib.alloc_old w1 _ b hlt]; exact hbk
  have d0 : w2.cell? ⟨b, 0, none⟩ = some (meP b) := by rw [Lib.cell_of_heap hb2]; rfl
  have d1 : w2.cell? ⟨b, 1, none⟩ = some v := by rw [Lib.cell_of_heap hb2]; rfl
  have f1 : w2.frozen? ⟨b, 1, none⟩ = false := Lib.frozen_of_heap hb2 1
  unfold meP at d0
  obtain ⟨ao, n', cap, rfl⟩ : ∃ ao n' cap, v' = .slice ao n' cap := by
    rcases hown'.2 with ⟨hv, _⟩ | ⟨g, cap, cur, hv, _⟩ <;> exact ⟨_, _, _, hv⟩
  have hs2 : w1.heap.size + 1 ≤ w2.heap.size := by have := hgrow.size; simpa using this
  have hblk : ∀ k, k < w1.heap.size → some k ≠ v.ownBlock → w2.heap[k]? = w1.heap[k]? := fun k hk hkv => by
    rw [hgrow.block k (by simp; omega) hkv, Lib.alloc_old w1 _ k hk]
  have hos : w2.os = w1.os := hgrow.os
  have htp : w2.tape = w1.tape := hgrow.tape
  have hou : w2.output = w1.output := hgrow.output
  have hsn' : SameOrNew w1 v (.slice ao n' cap) := by
    rcases hsn with e | e
    · exact .inl e
    · exact .inr fun g hg => by have := e g hg; simp at this; omega
  clear hgrow hsn
  go_wp2
  go_ret
  have hne' : (Value.slice ao n' cap).ownBlock ≠ some b := by
    rcases hsn' with e | e
    · rw [e]; exact hne
    · intro e2
      have := e b e2
      omega
  have hset : (w2.setCell ⟨b, 1, none⟩ (.slice ao n' cap)).heap[b]? = some (.cells #[meP b, .slice ao n' cap] 124 (0, 0)) := by
    rw [heap_setCell_same w2 b 1 _ _ _ hb2]; rfl
  have hk2 : ∀ k, k ≠ b → (w2.setCell ⟨b, 1, none⟩ (.slice ao n' cap)).heap[k]? = w2.heap[k]? := fun k hk => Below.heap_setCell w2 ⟨b, 1, none⟩ _ k hk
  refine ⟨rfl, _, ⟨hset, ?_, hne'⟩, ⟨?_, fun k hk hkb hkv => ?_⟩, ?_⟩
  · have hl : (bs ++ [Value.int .u8 c]).length = bs.length + 1 := by rw [List.length_append]; rfl
    rw [hl]
    exact owns_keep hown' fun g hg => hk2 g fun e => hne' (by rw [hg, e])
  · exact hb1.trans (Below.setCell (p := ⟨b, 1, none⟩) ⟨hos, htp, hou, by omega, fun k hk => absurd hk (Nat.not_lt_zero k)⟩ (Nat.zero_le _) _)
  · rw [hk2 k hkb, hblk k (by omega) hkv, hk1 k hkb]
  · rcases hsn' with e | e
    · exact .inl e
    · exact .inr fun g hg => by have := e g hg; omega
theorem freeze_other (w : World) (p : Addr) (n k : Nat) (h : k ≠ p.block) : (w.freeze p n).heap[k]? = w.heap[k]? := by
  unfold World.freeze
  split
  · rfl
  · simp only [Array.getElem?_modify]
    rw [if_neg (fun e => h e.symm)]
set_option maxHeartbeats 2000000 in
set_option maxRecDepth 100000 in
theorem st_k (b g cap : Nat) (p : Value) (l : List UInt8) (w : World) (h : BdAt b p (.slice (some ⟨g, 0, none⟩) l.length cap) (Lib.byteCells l) w) (h0 : l ≠ []) (h63 : l.length ≤ 140737488355328) :
    Calls Tryd.prog 32 #[.pointer (some ⟨b, 0, none⟩)] w fun e w' => e = .returned (.string ⟨l.toArray⟩) ∧ Below 0 w w' ∧ ∀ k, k ≠ g → w'.heap[k]? = w.heap[k]? := by
  have hbk := h.cells
  have hown := h.row
  rw [Lib.byteCells_length] at hown
  have hl0 : l.length ≠ 0 := by simpa using h0
  obtain ⟨cur, hg, hcm, hcs⟩ : ∃ cur, w.heap[g]? = some (.cells cur 5 (0, 0)) ∧ l.length ≤ cap ∧ cap ≤ cur.size := by
    rcases hown.2 with ⟨_, hz⟩ | ⟨g', cap', cur, hv, hg, h1, h2, _⟩
    · exact absurd hz hl0
    · cases hv
      exact ⟨cur, hg, h1, h2⟩
  have hgc := rowB_cells hown
  have c1 : w.drew.cell? ⟨b, 1, none⟩ = some (.slice (some ⟨g, 0, none⟩) l.length cap) := by
    have : w.drew.heap[b]? = some (.cells #[p, .slice (some ⟨g, 0, none⟩) l.length cap] 124 (0, 0)) := hbk
    rw [Lib.cell_of_heap this]; rfl
  have hSD : (Builtin.unsafeSliceData_ #[122] 160 #[.slice (some ⟨g, 0, none⟩) l.length cap]).run Tryd.prog w.drew = .ok (.pointer (some ⟨g, 0, none⟩)) w.drew :=
    Lib.run_unsafeSliceData_row _ _ _ _ _ _ (by omega)
  have hUS : (Builtin.unsafeString_ #[160, 3] 9 #[.pointer (some ⟨g, 0, none⟩), .int .i64 l.length]).run Tryd.prog w.drew = .ok (.string ⟨l.toArray⟩) (w.drew.freeze ⟨g, 0, none⟩ l.length) := by
    refine Lib.run_unsafeString_row w.drew 160 3 9 5 Tryd.underlying160 Tryd.Builder_Extra_169.cellsByte g cur.size (by have hg' : w.drew.heap[g]? = some (.cells cur 5 (0, 0)) := hg; simp [World.shape?, hg']) l h0 (by omega) (by omega) ?_
    intro j x hx
    have := hgc j (.int .u8 x.toNat) (by simp [Lib.byteCells, hx])
    exact this
  have mixed : Tryd.prog.follows .mixedOrders = true := by kernel_rfl
  go_enter Tryd.func32, Tryd.ntmps32
  go_wp2
  go_region_o
  all_goals (go_wp2; go_ret; exact ⟨rfl, Lib.below_freeze (Below.drew (Below.refl 0 w)) (p := ⟨g, 0, none⟩) (Nat.zero_le _) _, fun k hk => freeze_other w.drew ⟨g, 0, none⟩ _ k hk⟩)
end Go.Proofs.YtomodncooiddaaaDoor
