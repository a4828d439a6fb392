/-
  report.line: parts written into a builder, and a line's end.
-/
import Derived.Test.YtomodncooiddaaaDoorBub
import Derived.Deep.CutBlock
namespace Go.Proofs.YtomodncooiddaaaDoor
open Go.RowKit
def catV : List ByteArray → List Value
  | [] => []
  | s :: l => Lib.strCells s ++ catV l
theorem catV_append (l m : List ByteArray) : catV (l ++ m) = catV l ++ catV m := by
  induction l with
  | nil => rfl
  | cons s l ih => simp [catV, ih]
theorem catV_take (l : List ByteArray) (q : Nat) : (catV (l.take q)).length ≤ (catV l).length := by
  have : catV l = catV (l.take q) ++ catV (l.drop q) := by rw [← catV_append, List.take_append_drop]
  rw [this, List.length_append]; omega
theorem bdFr_trans {b : Nat} {v v1 : Value} {w w1 w2 : World} (h : BdFr b v w w1) (hs : SameOrNew w v v1) (k : BdFr b v1 w1 w2) : BdFr b v w w2 := by
  have s1 := h.below.size
  refine ⟨h.below.trans k.below, fun i hi hb hv => ?_⟩
  rw [k.block i (by omega) hb ?_, h.block i hi hb hv]
  rcases hs with e | e
  · rw [e]; exact hv
  · intro e2
    have := e i e2.symm
    omega
theorem sameOrNew_trans {v v1 v2 : Value} {w w1 : World} (hw : w.heap.size ≤ w1.heap.size) (h : SameOrNew w v v1) (k : SameOrNew w1 v1 v2) : SameOrNew w v v2 := by
  rcases k with e | e
  · rcases h with f | f
    · exact .inl (e.trans f)
    · exact .inr fun g hg => f g (by rw [← e]; exact hg)
  · exact .inr fun g hg => by have := e g hg; omega
theorem bd_cell {b : Nat} {v : Value} {w w' : World} (h : BdFr b v w w') {a : Addr} {u : Value} (h1 : a.block < w.heap.size) (h2 : a.block ≠ b) (h3 : some a.block ≠ v.ownBlock) (hc : w.cell? a = some u) : w'.cell? a = some u := by
  unfold World.cell? at hc ⊢
  rw [h.block _ h1 h2 h3]; exact hc
set_option maxRecDepth 100000 in
set_option maxHeartbeats 4000000 in
theorem line_k (b : Nat) (p v : Value) (hp : p = .pointer none ∨ p = meP b) (bs : List Value) (A : Option Addr) (n c : Nat) (xs : List ByteArray) (w : World) (h : BdAt b p v bs w)
    (hx : ∀ i (h : i < xs.length), ∃ a, A = some a ∧ w.cell? (a.add i) = some (.string xs[i])) (hblk : ∀ a, A = some a → a.block < w.heap.size ∧ a.block ≠ b ∧ some a.block ≠ v.ownBlock) (hn : xs.length = n) (hn2 : n ≤ 1000000) (hlen : bs.length + (catV xs).length + 1 ≤ 140737488355328) :
    Calls Tryd.prog 39 #[.pointer (some ⟨b, 0, none⟩), .slice A n c] w fun e w' => e = .returned (.tuple #[]) ∧ ∃ v', BdAt b (meP b) v' (bs ++ catV xs ++ [.int .u8 10]) w' ∧ BdFr b v w w' ∧ SameOrNew w v v' := by
  go_enter Tryd.func39, Tryd.ntmps39
  go_wp2_with fail
  go_loopw [8] (fun i wr => ∃ (q : Nat) (p1 v1 : Value), q ≤ n ∧ i = .int .i64 q ∧ (p1 = .pointer none ∨ p1 = meP b) ∧ BdAt b p1 v1 (bs ++ catV (xs.take q)) wr ∧ BdFr b v w wr ∧ SameOrNew w v v1) (fun i _ => n - (intOf i).toNat)
  case atStart => exact ⟨0, p, v, Nat.zero_le _, rfl, hp, by rw [List.take_zero]; show BdAt b p v (bs ++ []) w; rw [List.append_nil]; exact h, ⟨Below.refl 0 w, fun _ _ _ _ => rfl⟩, .inl rfl⟩
  case round =>
    obtain ⟨q, p1, v1, hq, rfl, hp1, hB, hF, hS⟩ := hrel
    by_cases hlt : q < n
    · obtain ⟨a, rfl, hcell⟩ := hx q (by omega)
      obtain ⟨k1, k2, k3⟩ := hblk a rfl
      have eb : (a.add q).block = a.block := by unfold Addr.add; split <;> rfl
      have hcell2 := bd_cell hF (by rw [eb]; exact k1) (by rw [eb]; exact k2) (by rw [eb]; exact k3) hcell
      have hl1 := catV_take xs q
      have hl2 := catV_take xs (q + 1)
      have et : catV (xs.take (q + 1)) = catV (xs.take q) ++ Lib.strCells xs[q] := by
        rw [List.take_add_one, List.getElem?_eq_getElem (by omega), catV_append]
        simp [catV]
      have hl3 : (catV (xs.take q)).length + (xs[q]).size ≤ (catV xs).length := by
        rw [et, List.length_append, Lib.strCells_length] at hl2; exact hl2
      clear hcell hx hblk
      go_wp2_with fail
      refine (ws_k b p1 v1 hp1 _ xs[q] wr hB (by rw [List.length_append]; omega)).mono ?_
      rintro e w3 ⟨rfl, v2, hB3, hF3, hS3⟩
      rw [List.append_assoc, ← et] at hB3
      have s3 := hF.below.size
      have hF4 := bdFr_trans hF hS hF3
      have hS4 := sameOrNew_trans s3 hS hS3
      clear hF3 hS3
      go_wp2_with fail
      go_roundw
      case rel => exact ⟨q + 1, meP b, v2, hlt, by go_num, .inr rfl, hB3, hF4, hS4⟩
      case measure => simp [intOf]; omega
    · have hqn : q = n := by omega
      subst hqn
      have el : xs.take q = xs := by rw [← hn, List.take_length]
      rw [el] at hB
      go_wp2_with fail
      refine (wb_k b p1 v1 hp1 _ 10 wr hB (by rw [List.length_append]; omega)).mono ?_
      rintro e w4 ⟨rfl, v2, hB4, hF4, hS4⟩
      have s3 := hF.below.size
      have hF5 := bdFr_trans hF hS hF4
      have hS5 := sameOrNew_trans s3 hS hS4
      clear hF4 hS4
      go_wp2_with fail
      go_end0
      exact ⟨rfl, v2, hB4, hF5, hS5⟩
end Go.Proofs.YtomodncooiddaaaDoor
namespace Go.Proofs.YtomodncooiddaaaDoor.Sx.Z
open Go.RowKit
/-- The bytes of texts, and a line's end. -/
def catB : List ByteArray → List UInt8
  | [] => []
  | s :: l => s.data.toList ++ catB l
theorem catB_append (l m : List ByteArray) : catB (l ++ m) = catB l ++ catB m := by
  induction l with
  | nil => rfl
  | cons s l ih => simp [catB, ih]
def txL (d : D) : List ByteArray := (List.range d.len).map fun i => (d.el i 0).toS
theorem txL_len (d : D) : (txL d).length = d.len := by unfold txL; simp
theorem txL_get {d : D} {i : Nat} (h : i < (txL d).length) : (txL d)[i] = (d.el i 0).toS := by simp [txL]
theorem catV_catB (l : List ByteArray) : catV l = cellsD (bytD (catB l)) := by
  rw [cellsD_byt]
  induction l with
  | nil => rfl
  | cons s l ih => rw [catV, catB, ih, List.map_append]; rfl
def lnB (d : D) : List UInt8 := catB (txL d) ++ [10]
theorem catV_len (l : List ByteArray) : (catV l).length = (catB l).length := by
  rw [catV_catB, cellsD_len]; exact List.length_map ..
def liC : Con := fun hp fr args => match args with
  | [.one (.sc (.ptr id (.lit 0))), .one (.sc (.osl e r (.lit 0) n))] => (match bldOf hp id, look hp r with
    | some (d, st, ps), some (.orow e' xs) => if Nat.beq e 9 && Nat.beq e' 9 && !Nat.beq r id && (look st r).isNone then
        some (bldEff id fr (d.app (bytD (lnB xs))) st (.tup []) (ps ++ [n.v = xs.len, 0 < xs.len ∧ xs.len ≤ 1000000, d.len + (lnB xs).length ≤ 140737488355328])) else none
    | _, _ => none)
  | _ => none
theorem eks_str : eks 9 = [.str] := by rfl
theorem li_ok : ConOK Tryd.prog 39 liC := by
  refine ⟨fun _ _ => by kernel_rfl, fun hp fr args e he hv w0 w ρ vs hw hn ha => ?_, fun hp fr caps e he => ?_⟩
  · unfold liC at he
    split at he
    · rename_i id e1 r n
      split at he
      · rename_i d st ps e' xs hb hr
        split at he
        · rename_i hck
          simp only [Bool.and_eq_true, Bool.not_eq_true', Option.isNone_iff_eq_none] at hck
          obtain ⟨⟨⟨h1, h2⟩, h3⟩, h4⟩ := hck
          obtain rfl := Nat.eq_of_beq_eq_true h1
          obtain rfl := Nat.eq_of_beq_eq_true h2
          have hri : r ≠ id := fun e => by
            rw [e] at h3
            have h5 : Nat.beq id id = true := Nat.beq_refl id
            rw [h5] at h3
            exact absurd h3 (by decide)
          obtain rfl := Option.some.inj he
          obtain ⟨hp1, hnx, ⟨hx0, hx1⟩, hp2, _⟩ := all_append.1 hv
          match vs, ha with
          | [a, b], ⟨⟨hid, ha⟩, hb2, _⟩ =>
            obtain ⟨p, v, hA⟩ := bld_at hw hb hp1
            have ha : a = .pointer (some (ρ.at id 0)) := ha
            subst ha
            have hat : ρ.at id 0 = ⟨ρ.blk id, 0, none⟩ := by simp [Map.at, hA.off]
            rw [hat]
            have hes : (eks 9).length = 1 := by rw [eks_str]; rfl
            obtain ⟨A, c, rfl, hnc, hcc⟩ := hb2
            rcases hcc with ⟨hc0, _⟩ | ⟨rfl, hcap, hrs⟩
            · omega
            · have hl0 : (SN.lit 0).v * (eks 9).length = 0 := Nat.zero_mul _
              rw [hl0]
              rcases hw.ents r _ hr with ⟨q0, _⟩ | ⟨_, q2, q3, cs, qh, qs, qd, qc⟩
              · rw [q0] at hrs; cases hrs
              · have hrow : ownId hp r = true := by simp [ownId, hr, Ent.isOwn]
                have hbne : ρ.blk r ≠ ρ.blk id := by
                  have ho := hA.own
                  unfold ownId at ho
                  split at ho
                  · rename_i y hy
                    exact hw.apart r id _ y hr hy rfl ho hri hrs hid
                  · cases ho
                have hvne : some (ρ.blk r) ≠ v.ownBlock := fun e => by
                  rcases hA.st2 with h | ⟨k, hk1, hk2, hk3⟩
                  · rw [h] at e; cases e
                  · rw [hk3] at e
                    have e := Option.some.inj e
                    obtain ⟨_, _, _, _, _, ho⟩ := hA.st1 k _ hk1
                    have hkr : r ≠ k := fun e2 => by rw [e2, hk1] at h4; cases h4
                    unfold ownId at ho
                    split at ho
                    · rename_i y hy
                      exact hw.apart r k _ y hr hy rfl ho hkr hrs hk2 e
                    · cases ho
                have hlt : ρ.blk r < w.heap.size := heap_lt' qh
                rw [hnx]
                refine (line_k (ρ.blk id) p v hA.ptr _ (some ⟨ρ.blk r, 0, none⟩) xs.len c (txL xs) w hA.at_ (fun i hi => ⟨_, rfl, ?_⟩) (fun a ha => ?_) (txL_len xs) hx1 ?_).mono ?_
                · rw [txL_get]
                  have hi' : i < xs.len := by rw [txL_len] at hi; exact hi
                  obtain ⟨u, hu, ht⟩ := qc i 0 .str hi' (by rw [eks_str]; rfl)
                  have hu2 : u = .string (xs.el i 0).toS := by cases ht; rfl
                  have ea : (⟨ρ.blk r, 0, none⟩ : Addr).add i = ⟨ρ.blk r, i, none⟩ := by unfold Addr.add; split <;> simp_all
                  rw [ea, Lib.cell_of_heap qh, ← hu2, ← hu, hes, Nat.mul_one, Nat.add_zero]
                · obtain rfl := Option.some.inj ha
                  exact ⟨hlt, hbne, hvne⟩
                · rw [cellsD_len, catV_len]
                  unfold lnB at hp2
                  rw [List.length_append] at hp2
                  exact hp2
                · rintro en w' ⟨rfl, v', k1, k2, k3⟩
                  have ek : cellsD d ++ catV (txL xs) ++ [Value.int .u8 10] = cellsD (d.app (bytD (lnB xs))) := by
                    rw [cellsD_app, catV_catB, List.append_assoc]
                    congr 1
                    unfold lnB
                    rw [cellsD_byt, cellsD_byt, List.map_append]; rfl
                  rw [ek] at k1
                  obtain ⟨ρ', _, hF⟩ := bld_fr hw hid (hn fr (.orow 5 _) (by simp only [bldEff, look]; rw [if_pos (by simp)])) hA k1 k2 k3 (.tup []) (ps ++ [xs.len = xs.len, 0 < xs.len ∧ xs.len ≤ 1000000, d.len + (lnB xs).length ≤ 140737488355328])
                  exact ⟨ρ', _, rfl, ⟨_, rfl, trivial⟩, hF⟩
        · cases he
      · cases he
    · cases he
  · have : liC hp fr (.junk :: caps) = none := rfl
    rw [this] at he; cases he
end Go.Proofs.YtomodncooiddaaaDoor.Sx.Z
