/-
  strings.Builder, as the executor knows it: a struct of one's own, and a row of bytes.
-/
import Derived.Test.YtomodncooiddaaaDoorBua
import Derived.Test.YtomodncooiddaaaDoorSxW
import Derived.Test.YtomodncooiddaaaDoorTt
namespace Go.Proofs.YtomodncooiddaaaDoor.Sx.Z
open Go.RowKit
def bytD (l : List UInt8) : D := .l (l.map fun b => [D.i (b.toNat : Int)])
def cellsD (d : D) : List Value := d.rows.map fun r => .int .u8 (r.getD 0 (.i 0)).toI
theorem cellsD_len (d : D) : (cellsD d).length = d.len := List.length_map ..
theorem cellsD_app (a b : D) : cellsD (a.app b) = cellsD a ++ cellsD b := List.map_append ..
theorem cellsD_get {d : D} {i : Nat} (h : i < d.len) : (cellsD d)[i]? = some (.int .u8 (d.el i 0).toI) := by
  have h' : i < d.rows.length := h
  unfold cellsD D.el
  rw [List.getElem?_map, List.getElem?_eq_getElem h', List.getD_eq_getElem?_getD (l := d.rows), List.getElem?_eq_getElem h']; rfl
theorem cellsD_byt (l : List UInt8) : cellsD (bytD l) = l.map fun b => .int .u8 (b.toNat : Int) := by
  unfold cellsD bytD D.rows
  rw [List.map_map]; rfl
theorem cellsD_str (s : ByteArray) : cellsD (bytD s.data.toList) = Lib.strCells s := cellsD_byt _
theorem cellsD_nil : cellsD (.l []) = [] := rfl
theorem eks_u8 : eks 5 = [.int .u8] := by rfl
def okP (id : Nat) : SC → Bool
  | .raw (.pointer none) => true
  | .ptr j (.lit 0) => Nat.beq j id
  | _ => false
def bldOf (hp : Heap) (id : Nat) : Option (D × Heap × List Prop) := match look hp id with
  | some (.own T [.c x0, .c x1]) => if Nat.beq T 124 && okP id x0 then (match x1 with
    | .nils => some (.l [], [], [])
    | .osl e r (.lit 0) n => if Nat.beq e 5 && !Nat.beq r id then (match look hp r with
      | some (.orow e' d) => if Nat.beq e' 5 then some (d, [(r, .gone)], [n.v = d.len, 0 < d.len]) else none
      | _ => none) else none
    | _ => none) else none
  | _ => none
structure BldAt (w0 : W0) (ρ : Map) (w : World) (hp : Heap) (id : Nat) (d : D) (st : Heap) (p v : Value) : Prop where
  ptr : p = .pointer none ∨ p = meP (ρ.blk id)
  at_ : BdAt (ρ.blk id) p v (cellsD d) w
  off : ρ.off id = 0
  mine : Mine w0.heap.size ρ (ρ.blk id)
  own : ownId hp id = true
  st1 : ∀ k x, look st k = some x → x = .gone ∧ k ≠ id ∧ (ρ k).isSome = true ∧ v.ownBlock = some (ρ.blk k) ∧ Mine w0.heap.size ρ (ρ.blk k) ∧ ownId hp k = true
  st2 : v.ownBlock = none ∨ ∃ k, look st k = some .gone ∧ (ρ k).isSome = true ∧ v.ownBlock = some (ρ.blk k)
theorem take_cells {cs : Array Value} {d : D} {n : Nat} {fz : Fz} (hn : n = d.len) (hs : n ≤ cs.size) (h : ∀ i, i < d.len → ∃ u, cs[i]? = some u ∧ TRel fz (.int .u8) (d.el i 0) u) : cs.toList.take n = cellsD d := by
  apply List.ext_getElem?
  intro i
  by_cases hi : i < n
  · rw [List.getElem?_take_of_lt hi, Array.getElem?_toList, cellsD_get (by omega)]
    obtain ⟨u, hu, ht⟩ := h i (by omega)
    rw [hu]
    cases ht; rfl
  · rw [List.getElem?_eq_none (by rw [List.length_take]; omega), List.getElem?_eq_none (by rw [cellsD_len]; omega)]
theorem bld_at {w0 : W0} {w : World} {ρ : Map} {hp : Heap} (hw : WH w0 ρ hp w) {id : Nat} {d : D} {st : Heap} {ps : List Prop} (h : bldOf hp id = some (d, st, ps)) (hps : All ps) : ∃ p v, BldAt w0 ρ w hp id d st p v := by
  unfold bldOf at h
  split at h
  · rename_i T x0 x1 hl
    split at h
    · rename_i hb
      simp only [Bool.and_eq_true] at hb
      obtain ⟨hT, hx0⟩ := hb
      obtain rfl := Nat.eq_of_beq_eq_true hT
      obtain ⟨g1, g2, g3, vs, hc, hh⟩ := hw.ents id _ hl
      have hl2 : vs.length = 2 := hc.1.symm
      obtain ⟨u0, u1, rfl⟩ : ∃ u0 u1, vs = [u0, u1] := by
        rcases vs with _ | ⟨a, _ | ⟨b, _ | ⟨c, l⟩⟩⟩ <;> first | exact ⟨_, _, rfl⟩ | (simp at hl2; done)
      have hr0 : CRel ρ x0 u0 := hc.2 0 x0 u0 rfl rfl
      have hr1 : CRel ρ x1 u1 := hc.2 1 x1 u1 rfl rfl
      have hp0 : u0 = .pointer none ∨ u0 = meP (ρ.blk id) := by
        unfold okP at hx0
        split at hx0
        · exact .inl hr0
        · obtain rfl := Nat.eq_of_beq_eq_true hx0
          right
          rw [hr0.2]
          simp [Map.at, g2, SO.v, meP]
        · cases hx0
      have hown : ownId hp id = true := by simp [ownId, hl, Ent.isOwn]
      refine ⟨u0, u1, ?_⟩
      split at h
      · simp only [Option.some.injEq, Prod.mk.injEq] at h
        obtain ⟨rfl, rfl, rfl⟩ := h
        obtain rfl : u1 = .slice none 0 0 := hr1
        exact ⟨hp0, ⟨hh, ⟨rfl, .inl ⟨rfl, rfl⟩⟩, fun e => by cases e⟩, g2, g3, hown, fun k x hx => by simp [look] at hx, .inl rfl⟩
      · rename_i e r n
        split at h
        · rename_i hb2
          simp only [Bool.and_eq_true, Bool.not_eq_true'] at hb2
          obtain rfl := Nat.eq_of_beq_eq_true hb2.1
          have hrid : r ≠ id := fun e => by
            have h2 := hb2.2
            rw [e] at h2
            have h3 : Nat.beq id id = true := Nat.beq_refl id
            rw [h3] at h2
            exact absurd h2 (by decide)
          split at h
          · rename_i e' d' hl'
            split at h
            · rename_i he'
              obtain rfl := Nat.eq_of_beq_eq_true he'
              simp only [Option.some.injEq, Prod.mk.injEq] at h
              obtain ⟨rfl, rfl, rfl⟩ := h
              obtain ⟨hn, hd0, _⟩ := hps
              obtain ⟨A, c, rfl, hnc, hA⟩ := hr1
              have he1 : (eks 5).length = 1 := by rw [eks_u8]; rfl
              rcases hA with ⟨hc0, _⟩ | ⟨rfl, hcap, hri⟩
              · omega
              · rcases hw.ents r _ hl' with ⟨q0, _⟩ | ⟨_, q2, q3, cs, qh, qs, qd, qc⟩
                · rw [q0] at hri; cases hri
                · have hne : ρ.blk r ≠ ρ.blk id := hw.apart r id _ _ hl' hl rfl rfl hrid hri g1
                  have ezero : (SN.lit 0).v * (eks 5).length = 0 := Nat.zero_mul _
                  rw [ezero]
                  rw [he1, Nat.mul_one] at qs
                  have hcap' : 0 + c ≤ ρ.cap r := hcap
                  have hwn : ownId hp r = true := by simp [ownId, hl', Ent.isOwn]
                  refine ⟨hp0, ⟨by rw [ezero] at hh; exact hh, ⟨rfl, .inr ⟨ρ.blk r, c, cs, ?_, qh, ?_, by omega, ?_⟩⟩, fun e => hne (Option.some.inj e)⟩, g2, g3, hown, fun k x hx => ?_, .inr ⟨r, by simp [look], hri, rfl⟩⟩
                  · rw [cellsD_len, ← hn]
                  · rw [cellsD_len, ← hn]; exact hnc
                  · rw [cellsD_len]
                    refine take_cells (fz := ρ.fz) rfl (by omega) fun i hi => ?_
                    obtain ⟨u, hu, ht⟩ := qc i 0 (.int .u8) hi (by rw [eks_u8]; rfl)
                    rw [he1, Nat.mul_one, Nat.add_zero] at hu
                    exact ⟨u, hu, ht⟩
                  · simp only [look] at hx
                    split at hx
                    · rename_i hk
                      obtain rfl : r = k := by simpa using hk
                      exact ⟨by simpa using hx.symm, hrid, hri, rfl, q3, hwn⟩
                    · cases hx
            · cases h
          · cases h
        · cases h
      · cases h
    · cases h
  · cases h
def ownB (id fr : Nat) (d2 : D) : Ent := .own 124 [.c (.ptr id (.lit 0)), .c (.osl 5 fr (.lit 0) (.sym d2.len))]
/-- What a builder is behind a call that writes: .. -/
def bldEff (id fr : Nat) (d2 : D) (st : Heap) (val : SV) (vc : List Prop) : Eff := { val := val, vc := vc, st := (id, ownB id fr d2) :: st, nw := [(fr, .orow 5 d2)] }
theorem bld_fr {w0 : W0} {w w' : World} {ρ : Map} {hp : Heap} (hw : WH w0 ρ hp w) {id fr : Nat} {d d2 : D} {st : Heap} {p v v' : Value} (hid : (ρ id).isSome = true) (hfr : ρ fr = none) (hA : BldAt w0 ρ w hp id d st p v)
    (h1 : BdAt (ρ.blk id) (meP (ρ.blk id)) v' (cellsD d2) w') (h2 : BdFr (ρ.blk id) v w w') (h3 : SameOrNew w v v') (val : SV) (vc : List Prop) :
    ∃ ρ', Ext ρ ρ' ∧ Fr w0.heap.size ρ ρ' w w' (bldEff id fr d2 st val vc) := by
  have hB : w0.heap.size ≤ w.heap.size := hw.below.size
  have hidfr : id ≠ fr := fun e => by rw [e, hfr] at hid; cases hid
  have lkn : ∀ k x, look [(fr, Ent.orow 5 d2)] k = some x → k = fr ∧ x = .orow 5 d2 := fun k x hx => by
    simp only [look] at hx
    split at hx
    · rename_i hk
      exact ⟨(by simpa using hk : fr = k).symm, by simpa using hx.symm⟩
    · cases hx
  have lks : ∀ k x, look ((id, ownB id fr d2) :: st) k = some x → (k = id ∧ x = ownB id fr d2) ∨ (k ≠ id ∧ look st k = some x) := fun k x hx => by
    simp only [look] at hx
    split at hx
    · rename_i hk
      exact .inl ⟨(by simpa using hk : id = k).symm, by simpa using hx.symm⟩
    · rename_i hk
      exact .inr ⟨fun e => hk (by simp [e]), hx⟩
  have keep : ∀ b, b < w.heap.size → (∀ k x, look ((id, ownB id fr d2) :: st) k = some x → (ρ k).isSome = true → ρ.blk k ≠ b) → w'.heap[b]? = w.heap[b]? := fun b hb hk => by
    refine h2.block b hb (fun e => hk id (ownB id fr d2) (by simp [look]) hid e.symm) fun e => ?_
    rcases hA.st2 with h | ⟨k, hk1, hk2, hk3⟩
    · rw [h] at e; cases e
    · rw [hk3] at e
      have hki := (hA.st1 k _ hk1).2.1
      refine hk k .gone ?_ hk2 (Option.some.inj e).symm
      simp only [look]
      rw [if_neg (by simpa using fun e => hki e.symm)]
      exact hk1
  have common : ∀ ρ', Ext ρ ρ' → ρ'.fz = ρ.fz → (∀ k, k ≠ fr → ρ' k = ρ k) → CRel ρ' (.osl 5 fr (.lit 0) (.sym d2.len)) v' → (ERel w0.heap.size ρ' w' fr (.orow 5 d2) ∧ ((ρ' fr).isSome = true → w.heap.size ≤ ρ'.blk fr ∨ Killed ρ ((id, ownB id fr d2) :: st) (ρ'.blk fr))) →
      Fr w0.heap.size ρ ρ' w w' (bldEff id fr d2 st val vc) := fun ρ' hx hz ho hc hn => by
    have hb : ρ'.blk id = ρ.blk id := (hx.at hid).2.1
    refine ⟨hx, fun k hk => ho k fun e => ?_, h2.below, keep, fun k x hk => ?_, fun k x hk => ?_, fun i j x y hi hj hne => ?_, fun b cs hb => .inl (by rw [← hz]; exact hb)⟩
    · have hk : look [(fr, Ent.orow 5 d2)] k = none := hk
      rw [e] at hk
      simp [look] at hk
    · rcases lks k x hk with ⟨rfl, rfl⟩ | ⟨_, hk⟩
      · refine ⟨(hx.at hid).1, by rw [(hx.at hid).2.2.1]; exact hA.off, ?_, [meP (ρ.blk k), v'], ⟨rfl, fun i x y hi hj => ?_⟩, by rw [hb]; exact h1.cells⟩
        · rw [hb]
          exact ⟨by rw [hx.mu]; exact hA.mine.1, by rw [hz]; exact hA.mine.2⟩
        · match i, hi, hj with
          | 0, hi, hj =>
            obtain rfl : SC.ptr k (.lit 0) = x := by simpa [cellsOf, Seg.cells] using hi
            obtain rfl : meP (ρ.blk k) = y := by simpa using hj
            refine ⟨(hx.at hid).1, ?_⟩
            rw [(hx.at hid).2.2.2]
            simp [Map.at, hA.off, SO.v, meP]
          | 1, hi, hj =>
            obtain rfl : SC.osl 5 fr (.lit 0) (.sym d2.len) = x := by simpa [cellsOf, Seg.cells] using hi
            obtain rfl : v' = y := by simpa using hj
            exact hc
          | i + 2, hi, hj => simp at hj
      · rw [(hA.st1 k x hk).1]; trivial
    · obtain ⟨rfl, rfl⟩ := lkn k x hk
      exact ⟨hn.1, hn.2, rfl⟩
    · exact absurd ((lkn i x hi).1.trans (lkn j y hj).1.symm) hne
  have he1 : (eks 5).length = 1 := by rw [eks_u8]; rfl
  rcases h1.row.2 with ⟨rfl, hn⟩ | ⟨g, cap, cur, rfl, hg, hnc, hcs, htk⟩
  · have hd : d2.len = 0 := by rw [cellsD_len] at hn; exact hn
    exact ⟨ρ, Ext.refl ρ, common ρ (Ext.refl ρ) rfl (fun _ _ => rfl) ⟨none, 0, by rw [SN.sv, hd], by rw [SN.sv, hd]; exact Nat.le_refl _, .inl ⟨rfl, fun _ h => by cases h⟩⟩ ⟨.inl ⟨hfr, hd⟩, fun h => by rw [hfr] at h; cases h⟩⟩
  · rw [cellsD_len] at hnc htk
    have hs := set_at ρ fr (g, 0) cur.size
    have hbk : (ρ.set fr (g, 0) cur.size).blk fr = g := by simp [Map.blk, hs]
    have hof : (ρ.set fr (g, 0) cur.size).off fr = 0 := by simp [Map.off, hs]
    have hcp : (ρ.set fr (g, 0) cur.size).cap fr = cur.size := by simp [Map.set]
    have hx := set_ext hfr (g, 0) cur.size
    have hnew : (w.heap.size ≤ g ∨ Killed ρ ((id, ownB id fr d2) :: st) g) ∧ Mine w0.heap.size ρ g := by
      rcases h3 with e | e
      · rcases hA.st2 with h | ⟨k, hk1, hk2, hk3⟩
        · rw [h] at e; cases e
        · rw [hk3] at e
          have e : some g = some (ρ.blk k) := e
          obtain rfl := Option.some.inj e
          obtain ⟨_, q1, q2, _, q4, _⟩ := hA.st1 k _ hk1
          refine ⟨.inr ⟨k, ?_, hk2, rfl⟩, q4⟩
          simp only [look]
          rw [if_neg (by simpa using fun e => q1 e.symm)]
          exact hk1
      · have := e g rfl
        exact ⟨.inl this, .inl (by omega), hw.froz.new this⟩
    refine ⟨_, hx, common _ hx rfl (fun k hk => set_ne hk _ _) ⟨_, cap, by rw [SN.sv, cellsD_len], by rw [SN.sv]; exact hnc, .inr ⟨?_, ?_, by rw [hs]; rfl⟩⟩ ⟨.inr ⟨by rw [hs]; rfl, hof, ?_, cur, by rw [hbk]; exact hg, by rw [hcp, he1, Nat.mul_one], by rw [hcp]; omega, fun i j k hi hk => ?_⟩, fun _ => by rw [hbk]; exact hnew.1⟩⟩
    · rw [hbk, he1]; rfl
    · rw [hcp]; show 0 + cap ≤ cur.size; omega
    · rw [hbk]
      exact ⟨hnew.2.1, hnew.2.2⟩
    · rw [eks_u8] at hk
      match j, hk with
      | 0, hk =>
        obtain rfl : K.int .u8 = k := by simpa using hk
        refine ⟨.int .u8 (d2.el i 0).toI, ?_, .int .u8 _⟩
        rw [he1, Nat.mul_one, Nat.add_zero]
        have := cellsD_get hi
        rw [← htk, List.getElem?_take_of_lt hi, Array.getElem?_toList] at this
        exact this
      | j + 1, hk => simp at hk
def bwC : Con := fun hp fr args => match args with
  | [.one (.sc (.ptr id (.lit 0))), .one (.sc (.raw (.string s)))] => (match bldOf hp id with
    | some (d, st, ps) => some (bldEff id fr (d.app (bytD s.data.toList)) st (.tup [.sc (.int .i64 (.sym s.size)), .sc (.raw .nilIface)]) (ps ++ [d.len + s.size ≤ 140737488355328]))
    | none => none)
  | _ => none
theorem bw_ok : ConOK Tryd.prog 30 bwC := by
  refine ⟨fun _ _ => by kernel_rfl, fun hp fr args e he hv w0 w ρ vs hw hn ha => ?_, fun hp fr caps e he => ?_⟩
  · unfold bwC at he
    split at he
    · rename_i id s
      split at he
      · rename_i d st ps hb
        obtain rfl := Option.some.inj he
        obtain ⟨hp1, hp2, _⟩ := all_append.1 hv
        match vs, ha with
        | [a, b], ⟨⟨hid, ha⟩, hb2, _⟩ =>
          obtain ⟨p, v, hA⟩ := bld_at hw hb hp1
          have ha : a = .pointer (some (ρ.at id 0)) := ha
          have hb2 : b = .string s := hb2
          subst ha hb2
          have hat : ρ.at id 0 = ⟨ρ.blk id, 0, none⟩ := by simp [Map.at, hA.off]
          rw [hat]
          refine (ws_k (ρ.blk id) p v hA.ptr _ s w hA.at_ (by rw [cellsD_len]; exact hp2)).mono ?_
          rintro en w' ⟨rfl, v', h1, h2, h3⟩
          rw [← cellsD_str, ← cellsD_app] at h1
          obtain ⟨ρ', _, hF⟩ := bld_fr hw hid (hn fr (.orow 5 _) (by simp only [bldEff, look]; rw [if_pos (by simp)])) hA h1 h2 h3 (.tup [.sc (.int .i64 (.sym s.size)), .sc (.raw .nilIface)]) (ps ++ [d.len + s.size ≤ 140737488355328])
          exact ⟨ρ', _, rfl, ⟨_, rfl, rfl, rfl, trivial⟩, hF⟩
      · cases he
    · cases he
  · have : bwC hp fr (.junk :: caps) = none := rfl
    rw [this] at he; cases he
def bbC : Con := fun hp fr args => match args with
  | [.one (.sc (.ptr id (.lit 0))), .one (.sc (.int .u8 c))] => (match bldOf hp id with
    | some (d, st, ps) => some (bldEff id fr (d.app (.l [[.i c.v]])) st (.one (.sc (.raw .nilIface))) (ps ++ [d.len + 1 ≤ 140737488355328]))
    | none => none)
  | _ => none
theorem bb_ok : ConOK Tryd.prog 31 bbC := by
  refine ⟨fun _ _ => by kernel_rfl, fun hp fr args e he hv w0 w ρ vs hw hn ha => ?_, fun hp fr caps e he => ?_⟩
  · unfold bbC at he
    split at he
    · rename_i id c
      split at he
      · rename_i d st ps hb
        obtain rfl := Option.some.inj he
        obtain ⟨hp1, hp2, _⟩ := all_append.1 hv
        match vs, ha with
        | [a, b], ⟨⟨hid, ha⟩, hb2, _⟩ =>
          obtain ⟨p, v, hA⟩ := bld_at hw hb hp1
          have ha : a = .pointer (some (ρ.at id 0)) := ha
          have hb2 : b = .int .u8 c.v := hb2
          subst ha hb2
          have hat : ρ.at id 0 = ⟨ρ.blk id, 0, none⟩ := by simp [Map.at, hA.off]
          rw [hat]
          refine (wb_k (ρ.blk id) p v hA.ptr _ c.v w hA.at_ (by rw [cellsD_len]; exact hp2)).mono ?_
          rintro en w' ⟨rfl, v', h1, h2, h3⟩
          rw [show cellsD d ++ [Value.int .u8 c.v] = cellsD (d.app (.l [[.i c.v]])) by rw [cellsD_app]; rfl] at h1
          obtain ⟨ρ', _, hF⟩ := bld_fr hw hid (hn fr (.orow 5 _) (by simp only [bldEff, look]; rw [if_pos (by simp)])) hA h1 h2 h3 (.one (.sc (.raw .nilIface))) (ps ++ [d.len + 1 ≤ 140737488355328])
          exact ⟨ρ', _, rfl, rfl, hF⟩
      · cases he
    · cases he
  · have : bbC hp fr (.junk :: caps) = none := rfl
    rw [this] at he; cases he
/-- The bytes of a row. -/
def bytB (d : D) : ByteArray := ⟨((List.range d.len).map fun i => UInt8.ofNat (d.el i 0).toI.toNat).toArray⟩
def bsC : Con := fun hp _ args => match args with
  | [.one (.sc (.ptr id (.lit 0)))] => (match bldOf hp id with
    | some (d, st, ps) => some { val := .one (.sc (.raw (.string (bytB d)))), vc := ps ++ [0 < d.len, d.len ≤ 140737488355328, ∀ i, i < d.len → 0 ≤ (d.el i 0).toI ∧ (d.el i 0).toI < 256], st := (id, .gone) :: st }
    | none => none)
  | _ => none
theorem bs_ok : ConOK Tryd.prog 32 bsC := by
  refine ⟨fun _ _ => by kernel_rfl, fun hp fr args e he hv w0 w ρ vs hw hn ha => ?_, fun hp fr caps e he => ?_⟩
  · unfold bsC at he
    split at he
    · rename_i id
      split at he
      · rename_i d st ps hb
        obtain rfl := Option.some.inj he
        obtain ⟨hp1, hp2, hp3, hp4, _⟩ := all_append.1 hv
        match vs, ha with
        | [a], ⟨⟨hid, ha⟩, _⟩ =>
          obtain ⟨p, v, hA⟩ := bld_at hw hb hp1
          have ha : a = .pointer (some (ρ.at id 0)) := ha
          subst ha
          have hat : ρ.at id 0 = ⟨ρ.blk id, 0, none⟩ := by simp [Map.at, hA.off]
          rw [hat]
          let l := (List.range d.len).map fun i => UInt8.ofNat (d.el i 0).toI.toNat
          have hl : l.length = d.len := by simp [l]
          have hcl : cellsD d = Lib.byteCells l := by
            apply List.ext_getElem?
            intro i
            by_cases hi : i < d.len
            · rw [cellsD_get hi]
              simp only [Lib.byteCells, List.getElem?_map, l, List.getElem?_range hi, Option.map_some]
              congr 2
              obtain ⟨b1, b2⟩ := hp4 i hi
              rw [UInt8.toNat_ofNat']
              omega
            · rw [List.getElem?_eq_none (by rw [cellsD_len]; omega), List.getElem?_eq_none (by simp [Lib.byteCells, l]; omega)]
          have hAt := hA.at_
          obtain ⟨g, cap, hv⟩ : ∃ g cap, v = .slice (some ⟨g, 0, none⟩) l.length cap := by
            rcases hAt.row.2 with ⟨_, h0⟩ | ⟨g, cap, _, hv, _⟩
            · rw [cellsD_len] at h0; omega
            · exact ⟨g, cap, by rw [hl, ← cellsD_len d]; exact hv⟩
          subst hv
          rw [hcl] at hAt
          refine (st_k (ρ.blk id) g cap p l w hAt (fun e => by rw [e] at hl; simp at hl; omega) (by omega)).mono ?_
          rintro en w' ⟨rfl, hb0, hk⟩
          refine ⟨ρ, _, rfl, rfl, Ext.refl ρ, fun _ _ => rfl, hb0, fun b hb hks => ?_, fun k x hx => ?_, fun _ _ h => by simp [look] at h, fun _ _ _ _ h => by simp [look] at h, fun _ _ h => .inl h⟩
          · refine hk b fun e => ?_
            rcases hA.st2 with h | ⟨k, hk1, hk2, hk3⟩
            · cases h
            · have hki := (hA.st1 k _ hk1).2.1
              refine hks k .gone ?_ hk2 ?_
              · simp only [look]
                rw [if_neg (by simpa using fun e => hki e.symm)]
                exact hk1
              · rw [e]; exact (Option.some.inj hk3).symm
          · simp only [look] at hx
            split at hx
            · obtain rfl := Option.some.inj hx
              trivial
            · rw [(hA.st1 k x hx).1]; trivial
      · cases he
    · cases he
  · have : bsC hp fr (.junk :: caps) = none := rfl
    rw [this] at he; cases he
end Go.Proofs.YtomodncooiddaaaDoor.Sx.Z
