/-
  Contracts whose answers hold new blocks of the caller's own: shown once, with the numbers 0, 1, .. for these blocks.
-/
import Derived.Test.YtbcbcambkjhhhaaProg
import Derived.Test.YtbcbcambkjhhhaaChecked
import Derived.KernelRfl
import Derived.Deep.LoopGhost
import Derived.Laws.Append
import Derived.Laws.AppendOwn
import Derived.Laws.MakeOwn
import Derived.Laws.StructEq
import Derived.Laws.Cells
import Derived.Laws.CopyRow
import Derived.Laws.Rows
import Derived.Below
import Derived.Orders
import Derived.ChangeKeysEq
import Derived.Laws.Bits64
import Derived.ChangeArms
import Derived.OpenShut
import Derived.WideShapes
import Derived.ChangeShapes
import Derived.Carry
import Derived.DataReads
import Derived.IntWalk
import Derived.Deep.CutRange
import Derived.WalkKit
import Derived.ProofKit
import Derived.Handy
import Derived.Lib.Hide
import Derived.Deep.WholeRow
import Derived.Deep.Cut
import Derived.Deep.RegionHeld3
import Derived.RegionTactic
import Derived.Test.YtbcbcambkjhhhaaMA
import Derived.Test.YtbcbcambkjhhhaaMB
import Derived.Test.YtbcbcambkjhhhaaMC
import Derived.Test.YtbcbcambkjhhhaaMD
import Derived.Test.YtbcbcambkjhhhaaME
import Derived.Test.YtbcbcambkjhhhaaMF
import Derived.Test.YtbcbcambkjhhhaaMG
import Derived.Test.YtbcbcambkjhhhaaMH
import Derived.Test.YtbcbcambkjhhhaaMI
import Derived.Test.YtbcbcambkjhhhaaMJ
import Derived.Test.YtbcbcambkjhhhaaMK
import Derived.Test.YtbcbcambkjhhhaaML
import Derived.Test.YtbcbcambkjhhhaaMM
import Derived.Test.YtbcbcambkjhhhaaMj1
import Derived.Test.YtbcbcambkjhhhaaMN
import Derived.Test.YtbcbcambkjhhhaaMO
import Derived.Test.YtbcbcambkjhhhaaMP
import Derived.Test.YtbcbcambkjhhhaaMW
import Derived.Test.YtbcbcambkjhhhaaMX
import Derived.Test.YtbcbcambkjhhhaaMY
import Derived.Test.YtbcbcambkjhhhaaMZ
import Derived.Test.YtbcbcambkjhhhaaMa1
namespace Go.Proofs.Ytbcbcambkjhhhaa.Sx
open Go.RowKit
def SC.sh (n : Nat) : SC → SC
  | .ptr id o => .ptr (n + id) o
  | .slice id o l => .slice (n + id) o l
  | .osl e id lo k => .osl e (n + id) lo k
  | .optr e id i j => .optr e (n + id) i j
  | x => x
def Seg.sh (n : Nat) : Seg → Seg | .c x => .c (x.sh n) | .ints k m f => .ints k m f
def shS (n : Nat) : List Seg → List Seg
  | [] => []
  | s :: r => s.sh n :: shS n r
def V1.sh (n : Nat) : V1 → V1 | .sc c => .sc (c.sh n) | .agg l => .agg (shS n l)
def shT (n : Nat) : List V1 → List V1
  | [] => []
  | x :: r => x.sh n :: shT n r
def SV.sh (n : Nat) : SV → SV | .one x => .one (x.sh n) | .tup l => .tup (shT n l) | x => x
def Ent.sh (n : Nat) : Ent → Ent | .own T l => .own T (shS n l) | .row T l => .row T (shS n l) | .ro l => .ro (shS n l) | x => x
def shH (n : Nat) : Heap → Heap
  | [] => []
  | (i, x) :: r => (n + i, x.sh n) :: shH n r
/-- With other numbers for the new blocks. -/
def Eff.sh (n : Nat) (e : Eff) : Eff := { e with val := e.val.sh n, nw := shH n e.nw }
def Map.sh (ρ : Map) (n : Nat) : Map := { ρ with m := fun i => if n ≤ i then ρ (i - n) else none, cap := fun i => ρ.cap (i - n) }
theorem sh_at (ρ : Map) (n i : Nat) : (ρ.sh n) (n + i) = ρ i := by
  show (if n ≤ n + i then ρ (n + i - n) else none) = ρ i
  rw [if_pos (Nat.le_add_right n i), Nat.add_sub_cancel_left]
theorem sh_blk (ρ : Map) (n i : Nat) : (ρ.sh n).blk (n + i) = ρ.blk i := by unfold Map.blk; rw [sh_at]
theorem sh_off (ρ : Map) (n i : Nat) : (ρ.sh n).off (n + i) = ρ.off i := by unfold Map.off; rw [sh_at]
theorem sh_addr (ρ : Map) (n i o : Nat) : (ρ.sh n).at (n + i) o = ρ.at i o := by unfold Map.at; rw [sh_blk, sh_off]
theorem sh_cap (ρ : Map) (n i : Nat) : (ρ.sh n).cap (n + i) = ρ.cap i := by show ρ.cap (n + i - n) = _; rw [Nat.add_sub_cancel_left]
theorem crel_sh {ρ : Map} {n : Nat} {x : SC} {v : Value} (h : CRel ρ x v) : CRel (ρ.sh n) (x.sh n) v := by
  cases x with
  | ptr id o => exact ⟨by rw [sh_at]; exact h.1, by rw [sh_addr]; exact h.2⟩
  | slice id o l =>
    obtain ⟨A, c, h1, h2, h3⟩ := h
    exact ⟨A, c, h1, h2, h3.imp (fun ⟨a, b⟩ => ⟨by rw [sh_at]; exact a, by rw [sh_addr]; exact b⟩) fun q => q⟩
  | osl e id lo k =>
    obtain ⟨A, c, h1, h2, h3⟩ := h
    exact ⟨A, c, h1, h2, h3.imp (fun q => q) fun ⟨a, b, d⟩ => ⟨by rw [sh_blk]; exact a, by rw [sh_cap]; exact b, by rw [sh_at]; exact d⟩⟩
  | optr e id i j => exact ⟨by rw [sh_at]; exact h.1, by rw [sh_blk]; exact h.2⟩
  | _ => exact h
theorem cells_sh (n : Nat) : ∀ l : List Seg, cellsOf (shS n l) = (cellsOf l).map (SC.sh n)
  | [] => rfl
  | .c x :: r => by
    have e1 : cellsOf (shS n (.c x :: r)) = (Seg.c (x.sh n)).cells ++ cellsOf (shS n r) := cellsOf_cons _ _
    rw [e1, cellsOf_cons, cells_sh n r, List.map_append]; rfl
  | .ints k m f :: r => by
    have e1 : cellsOf (shS n (.ints k m f :: r)) = (Seg.ints k m f).cells ++ cellsOf (shS n r) := cellsOf_cons _ _
    rw [e1, cellsOf_cons, cells_sh n r, List.map_append]
    congr 1
    simp [Seg.cells, SC.sh]
theorem csrel_sh {ρ : Map} {n : Nat} {l : List Seg} {vs : List Value} (h : CsRel ρ (cellsOf l) vs) : CsRel (ρ.sh n) (cellsOf (shS n l)) vs := by
  rw [cells_sh]
  refine ⟨by rw [List.length_map]; exact h.1, fun i x v hx hv => ?_⟩
  rw [List.getElem?_map] at hx
  cases hl : (cellsOf l)[i]? with
  | none => rw [hl] at hx; cases hx
  | some y =>
    rw [hl] at hx
    obtain rfl : y.sh n = x := by simpa using hx
    exact crel_sh (h.2 i y v hl hv)
theorem v1_sh {ρ : Map} {n : Nat} {x : V1} {v : Value} (h : V1Rel ρ x v) : V1Rel (ρ.sh n) (x.sh n) v := by
  cases x with
  | sc c => exact crel_sh h
  | agg l => obtain ⟨cs, h1, h2⟩ := h; exact ⟨cs, h1, csrel_sh h2⟩
theorem tup_sh {ρ : Map} {n : Nat} : ∀ {l : List V1} {vs : List Value}, TupRel ρ l vs → TupRel (ρ.sh n) (shT n l) vs
  | [], [], _ => trivial
  | [], _ :: _, h => h.elim
  | _ :: _, [], h => h.elim
  | _ :: _, _ :: _, h => ⟨v1_sh h.1, tup_sh h.2⟩
theorem ur_sh {ρ : Map} {n : Nat} {x : SV} {v : Value} (h : UR ρ x v) : UR (ρ.sh n) (x.sh n) v := by
  cases x with
  | one x => exact v1_sh h
  | tup l => obtain ⟨vs, h1, h2⟩ := h; exact ⟨vs, h1, tup_sh h2⟩
  | cond g x => exact h
  | junk => exact h
theorem own_sh (n : Nat) (x : Ent) : (x.sh n).isOwn = x.isOwn := by cases x <;> rfl
theorem erel_sh {B n id : Nat} {ρ : Map} {w : World} {x : Ent} (h : ERel B ρ w id x) : ERel B (ρ.sh n) w (n + id) (x.sh n) := by
  cases x with
  | own T l =>
    obtain ⟨h1, h2, h3, vs, h4, h5⟩ := h
    exact ⟨by rw [sh_at]; exact h1, by rw [sh_off]; exact h2, by rw [sh_blk]; exact h3, vs, csrel_sh h4, by rw [sh_blk]; exact h5⟩
  | row T l =>
    obtain ⟨h1, h2, h3, vs, rest, h4, h5⟩ := h
    exact ⟨by rw [sh_at]; exact h1, by rw [sh_off]; exact h2, by rw [sh_blk]; exact h3, vs, rest, csrel_sh h4, by rw [sh_blk]; exact h5⟩
  | orow e d =>
    rcases h with ⟨h1, h2⟩ | ⟨h1, h2, h3, h4⟩
    · exact .inl ⟨by rw [sh_at]; exact h1, h2⟩
    · exact .inr ⟨by rw [sh_at]; exact h1, by rw [sh_off]; exact h2, by rw [sh_blk]; exact h3, by rw [sh_blk, sh_cap]; exact h4⟩
  | ro l =>
    obtain ⟨h1, vs, h2, h3⟩ := h
    exact ⟨by rw [sh_at]; exact h1, vs, csrel_sh h2, by rw [sh_blk, sh_off]; exact h3⟩
  | gone => trivial
theorem look_sh (n : Nat) : ∀ (h : Heap) (k : Nat), look (shH n h) (n + k) = (look h k).map (Ent.sh n)
  | [], _ => rfl
  | (i, x) :: r, k => by
    simp only [shH, look]
    by_cases hk : i = k
    · subst hk; simp
    · have h1 : ¬ ((i == k) = true) := by simpa using hk
      have h2 : ¬ ((n + i == n + k) = true) := by simp; omega
      rw [if_neg h1, if_neg h2, look_sh n r k]
theorem look_sh_low (n : Nat) : ∀ (h : Heap) (k : Nat), k < n → look (shH n h) k = none
  | [], _, _ => rfl
  | (i, x) :: r, k, hk => by
    simp only [shH, look]
    have h2 : ¬ ((n + i == k) = true) := by simp; omega
    rw [if_neg h2, look_sh_low n r k hk]
theorem look_sh_some {n : Nat} {h : Heap} {k : Nat} {x : Ent} (hx : look (shH n h) k = some x) : ∃ j y, k = n + j ∧ look h j = some y ∧ x = y.sh n := by
  by_cases hk : k < n
  · rw [look_sh_low n h k hk] at hx; cases hx
  · have e : k = n + (k - n) := by omega
    rw [e, look_sh] at hx
    cases hl : look h (k - n) with
    | none => rw [hl] at hx; cases hx
    | some y => rw [hl] at hx; exact ⟨k - n, y, e, hl, by simpa using hx.symm⟩
theorem wh_sh {w0 : W0} {ρ : Map} {h : Heap} {w : World} (n : Nat) (hw : WH w0 ρ h w) : WH w0 (ρ.sh n) (shH n h) w := by
  refine ⟨hw.below, fun id e he => ?_, fun i j e f he hf h1 h2 hne hi hj => ?_, hw.froz, hw.sub, hw.mu0, hw.f00, hw.old⟩
  · obtain ⟨j, y, rfl, hl, rfl⟩ := look_sh_some he
    exact erel_sh (hw.ents j y hl)
  · obtain ⟨i', y, rfl, hl, rfl⟩ := look_sh_some he
    obtain ⟨j', z, rfl, hm, rfl⟩ := look_sh_some hf
    rw [own_sh] at h1 h2
    rw [sh_at] at hi hj
    rw [sh_blk, sh_blk]
    exact hw.apart i' j' y z hl hm h1 h2 (by omega) hi hj
theorem nin_sh {n : Nat} {h : Heap} {id : Nat} (hi : nin id (keys h) = true) : nin (n + id) (keys (shH n h)) = true := by
  rw [nin_keys] at hi ⊢
  rw [look_sh]
  simpa using hi
theorem scIn_sh {n : Nat} {h : Heap} {x : SC} (hx : scIn (keys h) x = true) : scIn (keys (shH n h)) (x.sh n) = true := by
  cases x <;> first | exact nin_sh hx | exact hx
theorem segsIn_sh {n : Nat} {h : Heap} : ∀ {l : List Seg}, segsIn (keys h) l = true → segsIn (keys (shH n h)) (shS n l) = true
  | [], _ => rfl
  | .c x :: r, hx => by
    simp only [segsIn, Bool.and_eq_true] at hx
    show (scIn (keys (shH n h)) (x.sh n) && segsIn (keys (shH n h)) (shS n r)) = true
    rw [scIn_sh hx.1, segsIn_sh hx.2]; rfl
  | .ints k m f :: r, hx => by
    simp only [segsIn] at hx
    exact segsIn_sh (l := r) hx
theorem v1In_sh {n : Nat} {h : Heap} {x : V1} (hx : v1In (keys h) x = true) : v1In (keys (shH n h)) (x.sh n) = true := by
  cases x with
  | sc c => exact scIn_sh hx
  | agg l => exact segsIn_sh hx
theorem tupIn_sh {n : Nat} {h : Heap} : ∀ {l : List V1}, l.all (v1In (keys h)) = true → (shT n l).all (v1In (keys (shH n h))) = true
  | [], _ => rfl
  | x :: r, hx => by
    simp only [List.all_cons, Bool.and_eq_true] at hx
    show ((x.sh n :: shT n r).all _) = true
    simp only [List.all_cons, Bool.and_eq_true]
    exact ⟨v1In_sh hx.1, tupIn_sh hx.2⟩
theorem svIn_sh {n : Nat} {h : Heap} {x : SV} (hx : svIn (keys h) x = true) : svIn (keys (shH n h)) (x.sh n) = true := by
  cases x with
  | one x => exact v1In_sh hx
  | tup l => exact tupIn_sh hx
  | cond g x => cases hx
  | junk => cases hx
theorem newOK_sh {n : Nat} {g : Heap} : ∀ {h : Heap}, newOK (keys g) 0 h = true → newOK (keys (shH n g)) n (shH n h) = true
  | [], _ => rfl
  | (i, .own T l) :: r, hx => by
    simp only [newOK, Bool.and_eq_true, Nat.ble_eq, Nat.blt_eq] at hx
    show newOK (keys (shH n g)) n ((n + i, .own T (shS n l)) :: shH n r) = true
    simp only [newOK, Bool.and_eq_true, Nat.ble_eq, Nat.blt_eq]
    exact ⟨⟨⟨by omega, by omega⟩, segsIn_sh hx.1.2⟩, newOK_sh hx.2⟩
  | (i, .row T l) :: r, hx => by
    simp only [newOK, Bool.and_eq_true, Nat.ble_eq, Nat.blt_eq] at hx
    show newOK (keys (shH n g)) n ((n + i, .row T (shS n l)) :: shH n r) = true
    simp only [newOK, Bool.and_eq_true, Nat.ble_eq, Nat.blt_eq]
    exact ⟨⟨⟨by omega, by omega⟩, segsIn_sh hx.1.2⟩, newOK_sh hx.2⟩
  | (i, .orow e d) :: r, hx => by
    simp only [newOK, Bool.and_eq_true, Nat.ble_eq, Nat.blt_eq] at hx
    show newOK (keys (shH n g)) n ((n + i, .orow e d) :: shH n r) = true
    simp only [newOK, Bool.and_eq_true, Nat.ble_eq, Nat.blt_eq]
    exact ⟨⟨by omega, by omega⟩, newOK_sh hx.2⟩
  | (i, .ro l) :: r, hx => by cases hx
  | (i, .gone) :: r, hx => by cases hx
/-- A contract whose answer's new blocks are numbered from 0 on. -/
def conS (aps : List AP) (spec : List Dat → Option Eff) : Con := con aps fun ds fr => match spec ds with
  | some e => some (e.sh fr)
  | none => none
/-- **A function does as its contract says**, if that can be shown of its body: with new blocks. -/
theorem fn_okS {P : Program} {tt : TT} (htt : TTOK P tt) (hm : P.follows .mixedOrders = true) {f : FuncId} {fn : Func} {c : Code} (hf : P.funcs[f]? = some fn) (hb : fn.body = some c) (hen : ∀ (args : Array Value) (w : World), (callFunc f args).run P w = .ok (.enter f args) w)
    {A : List Dat → Ann} (hC : ∀ ds id, CtxOK P ((A ds).C id)) {aps : List AP} {spec : List Dat → Option Eff} (hn : Nat.ble aps.length fn.ntmps = true)
    (H : ∀ ds e svs h id, spec ds = some e → All e.vc → unP aps ds 0 = some (svs, h, id) → sx tt fn.ntmps (A ds) LF c (retK tt fn.results.toList e 0) { tm := slots0 svs 0, hp := h, nx := id }) : ConOK P f (conS aps spec) := by
  refine ⟨hen, ?_⟩
  intro hp fr args e0 h0 hvc w0 w ρ vs hw hfr hargs
  unfold conS con at h0
  split at h0
  · rename_i ds ps hds
    split at h0
    · rename_i e he0
      have hes : ∃ e1, spec ds = some e1 ∧ e = e1.sh fr := by
        dsimp only at he0
        split at he0
        · rename_i e1 h1
          exact ⟨e1, h1, by simpa using he0.symm⟩
        · cases he0
      obtain ⟨e1, he, rfl⟩ := hes
      obtain rfl := by simpa using h0
      obtain ⟨hp1, hp2⟩ := all_append.1 hvc
      have hidsAll : ∀ i ∈ idsL args, ownId hp i = true → i ∈ keepOwn hp (idsL args) := fun i hi ho => keepOwn_mem.2 ⟨hi, ho⟩
      obtain ⟨svs, h, ρ1, id, hun, _, hin, hrel⟩ := unP_spec hw aps args ds ps hds hp1 vs hargs hidsAll 0
      have hsx := H ds e1 svs h id he hp2 hun
      have hlen : vs.length ≤ fn.ntmps := by
        have h1 := unP_len aps ds 0 svs h id hun
        have h2 := args_len hrel
        have := Nat.le_of_ble_eq_true hn
        omega
      have hsz : (vs.toArray ++ Array.replicate (fn.ntmps - vs.toArray.size) undef).size = fn.ntmps := by simp; omega
      have hwh : WH ⟨w, passF ρ w (keepOwn hp (idsL args)), fun _ => false⟩ ρ1 h w := by
        refine ⟨BelowM.refl _ _ _, fun i x hx => (hin.ents i x hx).1 _ _, fun i j x y hx _ ho => ?_, fun b cs hb => ?_, fun b cs hb => ?_, hin.hmu, hin.hf0, fun b cs hb => .inl ?_⟩
        · have := (hin.ents i x hx).2.1
          rw [this] at ho; cases ho
        · rw [hin.hfz] at hb
          exact passF_froz hw.froz hb
        · rw [hin.hf0] at hb; rw [hin.hfz]; exact hb
        · rw [hin.hfz] at hb; rw [hin.hf0]; exact hb
      refine calls_of_wp hf hb ?_
      refine sx_spec htt hm (hC ds) (w0 := ⟨w, passF ρ w (keepOwn hp (idsL args)), fun _ => false⟩) lf_spec c _ _ hsx _ ?_ ρ1 _ w ⟨⟨hsz, rfl, ?_⟩, hwh, fun i hi => hin.out i (.inr hi)⟩
      · intro ex xx s' ρ' a w' hex hk hs'
        have done : retK tt fn.results.toList e1 0 .ret s' → a.defers = [] ∧ ∃ v, (results fn a.tmps).run P w' = .ok v w' ∧ ∃ ρ'' u, Ending.returned v = .returned u ∧ UR ρ'' (e1.sh fr).val u ∧ Fr w0.heap.size ρ ρ'' w w' { e1.sh fr with vc := ps ++ (e1.sh fr).vc, st := if plainE (e1.sh fr) then [] else kills (keepOwn hp (idsL args)) } := by
          intro hk
          simp only [retK] at hk
          split at hk
          · rename_i v qs hres
            rw [allK_iff] at hk
            obtain ⟨hq, hk⟩ := hk
            generalize hfrz : frzSV s'.hp v e1.val = fz3 at hk
            obtain ⟨v', fs, ids⟩ := fz3
            dsimp only at hk
            rw [allK_iff] at hk
            obtain ⟨hfs, hk⟩ := hk
            split at hk
            rename_i la lb hla hlb
            split at hk
            rename_i hok
            obtain ⟨hk1, hk2⟩ := all_append.1 (conj_all hk)
            -- what is told lies still
            obtain ⟨u, hu1, hu2⟩ := resS_spec htt hs' hres hq
            have hu2' := frzSV_spec hs'.mem hfrz hfs (fun i hi ho => keepOwn_mem.2 ⟨hi, ho⟩) hu2
            have hfr0 := fr_freeze (B := w.heap.size) hs'.mem.froz (keepOwn s'.hp ids) .junk []
            have hmem' : WH ⟨w, passF ρ w (keepOwn hp (idsL args)), fun _ => false⟩ (ρ'.frz w' (keepOwn s'.hp ids)) (kills (keepOwn s'.hp ids) ++ s'.hp) w' := by
              have := wh_step hs'.mem hfr0 (fun i x hx => stOK_kills i x hx) (fun _ _ h => by simp [look] at h)
              exact this
            have hs2 : SH ⟨w, passF ρ w (keepOwn hp (idsL args)), fun _ => false⟩ 0 { tm := [], hp := kills (keepOwn s'.hp ids) ++ s'.hp, nx := s'.nx } (ρ'.frz w' (keepOwn s'.hp ids)) { a with tmps := #[] } w' := ⟨⟨rfl, hs'.slots.defers, fun t x hx => by simp [look] at hx⟩, hmem', hs'.fresh⟩
            generalize hρ3 : ρ'.frz w' (keepOwn s'.hp ids) = ρ3 at hu2' hmem' hs2
            have hle := svL_spec hla hk1
            have hhe := heapL_spec hlb hk2
            generalize mHeap (kills (keepOwn s'.hp ids) ++ s'.hp) e1.nw (mSV v' e1.val) = δ at *
            unfold endOK at hok
            simp only [Bool.and_eq_true] at hok
            obtain ⟨⟨hinj, hnew⟩, hsv⟩ := hok
            have hnj : e1.val ≠ .junk := fun hj => by rw [hj] at hsv; cases hsv
            have hu3 := ur_le hle hu2' hnj
            have hw2 := (stLe_spec (δ := δ) (t := { tm := [], hp := e1.nw, nx := 0 + 8 }) ⟨trivial, hhe, hinj⟩ hs2).mem
            have hB : w0.heap.size ≤ w.heap.size := hw.below.size
            generalize hρr : ρ3.ren δ (0 + 8) = ρr at hu3 hw2
            have hmu : ρr.mu = fun _ => false := by rw [← hρr, ← hρ3]; exact hs'.mem.mu0
            have hf0 : ρr.f0 = passF ρ w (keepOwn hp (idsL args)) := by rw [← hρr, ← hρ3]; exact hs'.mem.f00
            replace hu3 := ur_sh (n := fr) hu3
            replace hw2 := wh_sh fr hw2
            replace hnew := newOK_sh (n := fr) hnew
            replace hsv := svIn_sh (n := fr) hsv
            replace hmu : (ρr.sh fr).mu = fun _ => false := hmu
            replace hf0 : (ρr.sh fr).f0 = passF ρ w (keepOwn hp (idsL args)) := hf0
            clear hρr hinj hnj hle hhe
            generalize ρr.sh fr = ρr at *
            generalize hE : e1.sh fr = e at *
            have hEn : shH fr e1.nw = e.nw := by rw [← hE]; rfl
            have hEv : e1.val.sh fr = e.val := by rw [← hE]; rfl
            dsimp only at hw2
            rw [hEn] at hw2 hnew hsv
            rw [hEv] at hu3 hsv
            let ρ2 : Map := { m := fun i => if nin i (keys e.nw) then ρr i else ρ i, cap := fun i => if nin i (keys e.nw) then ρr.cap i else ρ.cap i, fz := if plainE e then ρ.fz else ρr.fz, f0 := ρ.f0, mu := ρ.mu }
            have ag : ∀ i, nin i (keys e.nw) = true → ρ2 i = ρr i ∧ ρ2.cap i = ρr.cap i := fun i hi => ⟨by simp only [ρ2]; rw [if_pos hi], by simp only [ρ2]; rw [if_pos hi]⟩
            have off : ∀ i, nin i (keys e.nw) = false → ρ2 i = ρ i := fun i hi => by simp only [ρ2]; rw [if_neg (by rw [hi]; simp)]
            have oldKey : ∀ i, (ρ i).isSome = true → nin i (keys e.nw) = false := fun i hi => by
              cases hn : nin i (keys e.nw) with
              | false => rfl
              | true =>
                obtain ⟨x, hx⟩ := Option.isSome_iff_exists.1 (nin_keys.1 hn)
                rw [hfr i x hx] at hi; cases hi
            have fzle : FzLe ρ.fz ρr.fz := fun b cs hb => hw2.sub b cs (by rw [hf0]; exact passF_le _ _ _ b cs hb)
            have ownNew : ∀ i x, look e.nw i = some x → (ρr i).isSome = true → w.heap.size ≤ ρr.blk i ∧ ρr.fz (ρr.blk i) = none := fun i x hx hi => by
              obtain ⟨ho, _⟩ := newOK_spec hnew i x hx
              obtain ⟨hM, _⟩ := erel_some (hw2.ents i x hx) ho hi
              refine ⟨?_, hM.2⟩
              rcases hM.1 with h | h
              · exact h
              · rw [hmu] at h; cases h
            have blk2 : ∀ i, nin i (keys e.nw) = true → ρ2.blk i = ρr.blk i := fun i hi => by simp [Map.blk, (ag i hi).1]
            have hzz : ρ2.fz = ρr.fz ∨ plainE e = true := by
              cases hpl : plainE e with
              | true => exact .inr rfl
              | false => left; simp only [ρ2, hpl]; rfl
            refine ⟨hs'.slots.defers, u, hu1, ρ2, u, rfl, ur_in ag (hzz.imp (fun h => h) fun h => by unfold plainE at h; exact (Bool.and_eq_true _ _ ▸ h).1) hsv hu3, ?_⟩
            refine ⟨⟨fun i p hi => ?_, fun i hi => ?_, ?_, rfl, rfl⟩, fun i hi => ?_, ⟨hs'.mem.below.os, hs'.mem.below.tape, hs'.mem.below.output, hs'.mem.below.size, fun k hk => absurd hk (Nat.not_lt_zero k)⟩, fun b hb' _ => hs'.mem.below.block b hb' (by rw [hs'.mem.mu0]), fun i x hx => ?_, fun i x hx => ?_, fun i j x y hx hy hne hii hjj => ?_, fun b cs hb => ?_⟩
            · rw [off i (oldKey i (by rw [hi]; rfl))]; exact hi
            · have := oldKey i hi
              simp only [ρ2]; rw [if_neg (by rw [this]; simp)]
            · simp only [ρ2]
              split
              · exact fun _ _ h => h
              · exact fzle
            · have hi' : look e.nw i = none := hi
              refine off i ?_
              cases hn : nin i (keys e.nw) with
              | false => rfl
              | true => rw [nin_keys, hi'] at hn; cases hn
            · have hx' : look (if plainE e then [] else kills (keepOwn hp (idsL args))) i = some x := hx
              split at hx'
              · simp [look] at hx'
              · rw [(kills_look hx').1]; trivial
            · have hx' : look e.nw i = some x := hx
              obtain ⟨ho, _, _, hni⟩ := newOK_spec hnew i x hx'
              have hki : nin i (keys e.nw) = true := nin_keys.2 (by rw [hx']; rfl)
              refine ⟨erel_in ag hki (hzz.imp (fun h => h) fun h => by unfold plainE at h; exact plainH_spec (Bool.and_eq_true _ _ ▸ h).2 i x hx') hni (fun hi => ?_) (hw2.ents i x hx'), fun hi => .inl ?_, ho⟩
              · obtain ⟨g1, g2⟩ := ownNew i x hx' hi
                refine ⟨.inl (by omega), ?_⟩
                simp only [ρ2]
                split
                · exact hw.froz.new g1
                · exact g2
              · rw [blk2 i hki]
                exact (ownNew i x hx' (by rw [← (ag i hki).1]; exact hi)).1
            · have hx' : look e.nw i = some x := hx
              have hy' : look e.nw j = some y := hy
              have hki : nin i (keys e.nw) = true := nin_keys.2 (by rw [hx']; rfl)
              have hkj : nin j (keys e.nw) = true := nin_keys.2 (by rw [hy']; rfl)
              rw [blk2 i hki, blk2 j hkj]
              exact hw2.apart i j x y hx' hy' (newOK_spec hnew i x hx').1 (newOK_spec hnew j y hy').1 hne (by rw [← (ag i hki).1]; exact hii) (by rw [← (ag j hkj).1]; exact hjj)
            · cases hpl : plainE e with
              | true =>
                left
                have : ρ2.fz b = some cs := hb
                simp only [ρ2, hpl] at this
                exact this
              | false =>
                have hb2 : ρr.fz b = some cs := by
                  have : ρ2.fz b = some cs := hb
                  simp only [ρ2, hpl] at this
                  exact this
                have hnw : ∀ i x, look e.nw i = some x → (ρ2 i).isSome = true → ρ2.blk i ≠ b := fun i x hx hi hbb => by
                  have hki : nin i (keys e.nw) = true := nin_keys.2 (by rw [hx]; rfl)
                  obtain ⟨_, g2⟩ := ownNew i x hx (by rw [← (ag i hki).1]; exact hi)
                  rw [← blk2 i hki, hbb, hb2] at g2; cases g2
                rcases hw2.old b cs hb2 with h1 | h1 | h1
                · rw [hf0] at h1
                  rcases passF_some h1 with h2 | ⟨⟨i, hi, hsi, hbi⟩, _⟩
                  · exact .inl h2
                  · exact .inr ⟨.inr ⟨i, by simp only [Bool.false_eq_true, ↓reduceIte]; exact kills_mem hi, hsi, hbi.symm⟩, hw2.froz b cs hb2, hnw⟩
                · exact .inr ⟨.inl h1, hw2.froz b cs hb2, hnw⟩
                · rw [hmu] at h1; cases h1
            · exact hk.elim
            · exact hk.elim
          · exact hk.elim
        cases ex with
        | normal => simp only [exOf, Option.some.injEq] at hex; subst hex; exact done hk
        | ret => simp only [exOf, Option.some.injEq] at hex; subst hex; exact done hk
        | exit i => simp only [exOf, Option.some.injEq] at hex; subst hex; exact hk.elim
        | goto l => cases hex
        | panic ch => cases hex
        | outgrown => cases hex
      · intro t x hx
        obtain ⟨_, h2⟩ := slots0_look svs 0 t x hx
        obtain ⟨v, hv, hr⟩ := args_get hrel (by simpa using h2)
        have hlt := lt_of_get hv
        have : (vs.toArray ++ Array.replicate (fn.ntmps - vs.toArray.size) undef).getD t undef = v := by
          simp only [Array.getD_eq_getD_getElem?]
          rw [Array.getElem?_append_left (by simpa using hlt)]
          simp [hv]
        rw [this]
        exact ur_vrel hr
    · cases h0
  · cases h0
/-- What is to be shown of a body, for what the contract says of these data. -/
theorem fn_obS {P : Program} {tt : TT} (htt : TTOK P tt) (hm : P.follows .mixedOrders = true) {f : FuncId} {fn : Func} {c : Code} (hf : P.funcs[f]? = some fn) (hb : fn.body = some c) (hen : ∀ (args : Array Value) (w : World), (callFunc f args).run P w = .ok (.enter f args) w)
    {A : List Dat → Ann} (hC : ∀ ds id, CtxOK P ((A ds).C id)) {aps : List AP} {spec : List Dat → Option Eff} (hn : Nat.ble aps.length fn.ntmps = true)
    (H : ∀ ds, Ob tt fn.ntmps (A ds) c fn.results.toList 0 (spec ds) (unP aps ds 0)) : ConOK P f (conS aps spec) :=
  fn_okS htt hm hf hb hen hC hn fun ds e svs h id he hvc hun => by
    have := H ds
    rw [he, hun] at this
    exact allI_iff.1 this hvc
end Go.Proofs.Ytbcbcambkjhhhaa.Sx
namespace Go.Proofs.Ytbcbcambkjhhhaa.Sx.Z
open Go.RowKit
theorem ent_le {n : Int} {z : Zs} (g : Good n z) (hz : z.1 = false) {i j : Nat} (_hi : i < R n) (hj : j < R n) {c : Int} (h : ∀ v, Pt n z v → v i - v j ≤ c) : z.2 (i * 7 + j) ≤ c := by
  have p := h _ (pt_at g hz hj)
  have d := g.diag j hj
  omega
theorem fg_ent {n x : Int} {z : Zs} (hz : z.1 = false) (hx : isVarP n x = true) {v : Nat → Int} (p : Pt n (fgZ n x z) v) {i j : Nat} (hi : i < R n) (hj : j < R n) (hi2 : i ≠ (x + 1).toNat) (hj2 : j ≠ (x + 1).toNat) : v i - v j ≤ z.2 (i * 7 + j) := by
  have hR := R_le n
  have t := p.2.2 i j hi hj
  rw [fg_false hz hx] at t
  dsimp only at t
  rwa [fg_at hi hj hR.2.1, if_neg (by omega), if_neg (by omega)] at t
theorem pt_congr {n : Int} {z : Zs} {v w : Nat → Int} (h : ∀ i, i < R n → v i = w i) (p : Pt n z v) : Pt n z w := by
  have hR := R_le n
  exact ⟨p.1, by rw [← h 0 (by omega)]; exact p.2.1, fun i j hi hj => by rw [← h i hi, ← h j hj]; exact p.2.2 i j hi hj⟩
/-- It has one row of numbers, and no other. -/
def Sg (n : Int) (z : Zs) (p : Nat → Int) : Prop := Good n z ∧ Pt n z p ∧ ∀ v, Pt n z v → ∀ i, i < R n → v i = p i
theorem sg_ent {n : Int} {z : Zs} {p : Nat → Int} (h : Sg n z p) {i j : Nat} (hi : i < R n) (hj : j < R n) : z.2 (i * 7 + j) ≤ p i - p j :=
  ent_le h.1 h.2.1.1 hi hj fun v hv => by rw [h.2.2 v hv i hi, h.2.2 v hv j hj]; exact Int.le_refl _
def setC (n x c : Int) (z : Zs) : Zs := metZ n x (ofLo c c) (ofHi c c) (fgZ n x z)
theorem good_setC {n x c : Int} {z : Zs} (g : Good n z) : Good n (setC n x c z) := good_met (good_fg g _) _ _ _
theorem of_cc {c : Int} (hc : -2147483648 ≤ c ∧ c ≤ 2147483647) : ofLo c c = c ∧ ofHi c c = c := of_lh (by omega)
theorem setC_pt {n x c : Int} {z : Zs} (g : Good n z) (hx : isVarP n x = true) (hc : -2147483648 ≤ c ∧ c ≤ 2147483647) (v : Nat → Int) : Pt n (setC n x c z) v ↔ Pt n (fgZ n x z) v ∧ v (x + 1).toNat = c := by
  have e := of_cc hc
  unfold setC
  rw [met_pt (good_fg g x) hx, e.1, e.2, e.1, e.2]
  constructor
  · rintro ⟨a, b, d⟩; exact ⟨a, by omega⟩
  · rintro ⟨a, b⟩; exact ⟨a, by omega, by omega⟩
theorem sg_set {n x c : Int} {z : Zs} {p : Nat → Int} (h : Sg n z p) (hx : isVarP n x = true) (hc : -2147483648 ≤ c ∧ c ≤ 2147483647) : Sg n (setC n x c z) (upd p (x + 1).toNat c) := by
  have hR := R_le n
  obtain ⟨x1, x2, x3⟩ := isVar_R hx
  refine ⟨good_setC h.1, (setC_pt h.1 hx hc _).2 ⟨pt_fg h.1 hx h.2.1 hc, upd_at _ _ _⟩, fun v hv i hi => ?_⟩
  obtain ⟨pv, ev⟩ := (setC_pt h.1 hx hc v).1 hv
  by_cases hix : i = (x + 1).toNat
  · rw [hix, upd_at]; exact ev
  · rw [upd_ne hix]
    have a := fg_ent h.2.1.1 hx pv hi (show 0 < R n by omega) hix (by omega)
    have b := fg_ent h.2.1.1 hx pv (show 0 < R n by omega) hi (by omega) hix
    have a2 := sg_ent h hi (show 0 < R n by omega)
    have b2 := sg_ent h (show 0 < R n by omega) hi
    have e1 := pv.2.1
    have e2 := h.2.1.2.1
    omega
def rowZ (n : Int) (g : Nat → Int) : Nat → Zs
  | 0 => (false, fun _ => 0)
  | i + 1 => setC n i (g i) (rowZ n g i)
theorem row_sg {n : Int} (hn : 0 ≤ n ∧ n ≤ 6) {g : Nat → Int} (hg : ∀ i : Nat, (i : Int) < n → -2147483648 ≤ g i ∧ g i ≤ 2147483647) : ∀ i : Nat, (i : Int) ≤ n → Sg n (rowZ n g i) (fun q => if q = 0 then 0 else if q ≤ i then g (q - 1) else 0)
  | 0, _ => by
    refine ⟨good_none hn false, ⟨rfl, rfl, fun i j hi hj => ?_⟩, fun v hv i hi => ?_⟩
    · have e : ∀ q : Nat, (if q = 0 then 0 else if q ≤ 0 then g (q - 1) else 0) = (0 : Int) := fun q => by
        split
        · rfl
        · rw [if_neg (by omega)]
      have z0 : (rowZ n g 0).2 (i * 7 + j) = 0 := rfl
      dsimp only
      rw [e, e]; omega
    · have hR := R_le n
      have a := hv.2.2 i 0 hi (by omega)
      have b := hv.2.2 0 i (by omega) hi
      have c := hv.2.1
      dsimp only [rowZ] at a b
      show v i = if i = 0 then 0 else if i ≤ 0 then g (i - 1) else 0
      split
      · omega
      · rw [if_neg (by omega)]; omega
  | i + 1, h => by
    have ih := row_sg hn hg i (by omega)
    have hx : isVarP n i = true := isVar_of hn (by omega)
    have s := sg_set ih hx (hg i (by omega))
    have e : ((i : Int) + 1).toNat = i + 1 := by omega
    rw [e] at s
    have ef : ∀ q, upd (fun q => if q = 0 then 0 else if q ≤ i then g (q - 1) else 0) (i + 1) (g i) q = if q = 0 then 0 else if q ≤ i + 1 then g (q - 1) else 0 := fun q => by
      by_cases hq : q = i + 1
      · subst hq; rw [upd_at, if_neg (by omega), if_pos (by omega)]; rfl
      · rw [upd_ne hq]
        by_cases h0 : q = 0
        · rw [if_pos h0, if_pos h0]
        · rw [if_neg h0, if_neg h0]
          by_cases h1 : q ≤ i
          · rw [if_pos h1, if_pos (by omega)]
          · rw [if_neg h1, if_neg (by omega)]
    rw [funext ef] at s
    exact s
theorem row_all {n : Int} (hn : 0 ≤ n ∧ n ≤ 6) {g : Nat → Int} (hg : ∀ i : Nat, (i : Int) < n → -2147483648 ≤ g i ∧ g i ≤ 2147483647) : Sg n (rowZ n g n.toNat) (vz g) := by
  obtain ⟨a, b, c⟩ := row_sg hn hg n.toNat (by omega)
  have hr : (R n : Int) = n + 1 := by rw [(R_le n).2.2, rows_n hn]
  have e : ∀ i, i < R n → (if i = 0 then 0 else if i ≤ n.toNat then g (i - 1) else 0) = vz g i := fun i hi => by
    unfold vz
    split
    · rfl
    · rw [if_pos (by omega)]
  exact ⟨a, pt_congr e b, fun v hv i hi => (c v hv i hi).trans (e i hi)⟩
theorem good_row {n : Int} (hn : 0 ≤ n ∧ n ≤ 6) (g : Nat → Int) : ∀ i, Good n (rowZ n g i)
  | 0 => good_none hn false
  | i + 1 => good_setC (good_row hn g i)
noncomputable def nrowS : FSpec := fun ds _ => match ds with
  | [.d g] => some { val := .one (.agg [.c (.bool (.sym (rowZ g.len (fun j => vD g (j : Nat)) g.len : Zs).1)), .c (.rows 48 (itD (g.len) (g.len) (rowZ g.len (fun j => vD g (j : Nat)) g.len))), .c (.int .i64 (.sym (g.len))), .c (.bool (.sym (rowZ g.len (fun j => vD g (j : Nat)) g.len : Zs).1)), .ints .i64 (.lit 49) (rowZ g.len (fun j => vD g (j : Nat)) g.len : Zs).2]), vc := [g.len ≤ 6] }
  | _ => none
noncomputable def nrowC : Con := con [.sc (.rows 3)] nrowS
theorem nrow_ok : ConOK Try.prog 48 nrowC := by
  refine fn_ob tt_ok mixed Try.func48 rfl (fun _ _ => by kernel_rfl) (A := fun ds => ⟨fun _ => Cons.of [(53, nzerosC), (34, iconstC), (52, nsetC)], fun k => match k, ds with | 3, [.d g] => some { ι := Nat, pre := fun _ i => i ≤ g.len, μ := fun i => g.len + 1 - i, st := fun s i => famR s [(4, .one (.sc (.int .i64 (.sym ((i : Nat))))))] [0, 2, 3] [(idOf s 3, .own 91 ([.c (.bool (.sym (rowZ g.len (fun j => vD g (j : Nat)) i : Zs).1)), .c (.rows 48 (itD (g.len) (g.len) (rowZ g.len (fun j => vD g (j : Nat)) i))), .c (.int .i64 (.sym (g.len))), .c (.bool (.sym (rowZ g.len (fun j => vD g (j : Nat)) i : Zs).1)), .ints .i64 (.lit 49) (rowZ g.len (fun j => vD g (j : Nat)) i : Zs).2]))] [2] } | _, _ => none, fun _ => none⟩) (fun _ _ => (cons_cons nzeros_ok (cons_cons iconst_ok (cons_cons nset_ok cons_nil)))) (by kernel_rfl) ?_
  intro ds fr
  unfold nrowS
  split
  · rename_i g
    refine kmp (q := g.len ≤ (6 : Nat) →
 (∃ (i : Nat),
 i.le g.len ∧
 (0 : Int) = (↑i : Int) ∧
 g.rows = g.rows ∧
 false = (rowZ (↑g.len : Int) (fun (j : Nat) => vD g (↑j : Int)) i).fst ∧
 List.map
 (fun (j : Nat) =>
 [D.i (itvLo (topN (↑g.len : Int)) false (fun (x : Nat) => (0 : Int)) (↑j : Int)),
 D.i (itvHi (topN (↑g.len : Int)) false (fun (x : Nat) => (0 : Int)) (↑j : Int))])
 (List.range (topN (↑g.len : Int)).toNat) =
 List.map
 (fun (j : Nat) =>
 [D.i
 (itvLo (↑g.len : Int) (rowZ (↑g.len : Int) (fun (j : Nat) => vD g (↑j : Int)) i).fst
 (rowZ (↑g.len : Int) (fun (j : Nat) => vD g (↑j : Int)) i).snd (↑j : Int)),
 D.i
 (itvHi (↑g.len : Int) (rowZ (↑g.len : Int) (fun (j : Nat) => vD g (↑j : Int)) i).fst
 (rowZ (↑g.len : Int) (fun (j : Nat) => vD g (↑j : Int)) i).snd (↑j : Int))])
 (List.range g.len) ∧
 topN (↑g.len : Int) = (↑g.len : Int) ∧
 false = (rowZ (↑g.len : Int) (fun (j : Nat) => vD g (↑j : Int)) i).fst ∧
 (∀ (o : Nat), o < nat_lit 49 → (0 : Int) = (rowZ (↑g.len : Int) (fun (j : Nat) => vD g (↑j : Int)) i).snd o) ∧
 false = false ∧ (0 : Int) = (0 : Int) ∧ false = false ∧ ∀ (o : Nat), o < nat_lit 49 → (0 : Int) = (0 : Int)) ∧
 ∀ (i : Nat),
 i.le g.len →
 (decide ((↑i : Int) < (↑g.len : Int)) = true →
 ((0 : Int) ≤ (↑i : Int) ∧ (↑i : Int) < (↑g.len : Int)) ∧
 Good (↑g.len : Int)
 ((rowZ (↑g.len : Int) (fun (j : Nat) => vD g (↑j : Int)) i).fst, (rowZ (↑g.len : Int) (fun (j : Nat) => vD g (↑j : Int)) i).snd) ∧
 (itD g.len (↑g.len : Int) (rowZ (↑g.len : Int) (fun (j : Nat) => vD g (↑j : Int)) i)).len ≤ (1000 : Nat) ∧
 ∃ (j : Nat),
 j.le g.len ∧
 g.len + (1 : Nat) - j < g.len + (1 : Nat) - i ∧
 IntKind.i64.wrap ((↑i : Int) + (1 : Int)) = (↑j : Int) ∧
 g.rows = g.rows ∧
 (metZ (↑g.len : Int) (↑i : Int) (ofLo (g.el (↑i : Int).toNat (0 : Nat)).toI (g.el (↑i : Int).toNat (0 : Nat)).toI)
 (ofHi (g.el (↑i : Int).toNat (0 : Nat)).toI (g.el (↑i : Int).toNat (0 : Nat)).toI)
 (fgZ (↑g.len : Int) (↑i : Int)
 ((rowZ (↑g.len : Int) (fun (j : Nat) => vD g (↑j : Int)) i).fst,
 (rowZ (↑g.len : Int) (fun (j : Nat) => vD g (↑j : Int)) i).snd))).fst =
 (rowZ (↑g.len : Int) (fun (j : Nat) => vD g (↑j : Int)) j).fst ∧
 List.map
 (fun (j : Nat) =>
 [D.i
 (itvLo (↑g.len : Int)
 (metZ (↑g.len : Int) (↑i : Int) (ofLo (g.el (↑i : Int).toNat (0 : Nat)).toI (g.el (↑i : Int).toNat (0 : Nat)).toI)
 (ofHi (g.el (↑i : Int).toNat (0 : Nat)).toI (g.el (↑i : Int).toNat (0 : Nat)).toI)
 (fgZ (↑g.len : Int) (↑i : Int)
 ((rowZ (↑g.len : Int) (fun (j : Nat) => vD g (↑j : Int)) i).fst,
 (rowZ (↑g.len : Int) (fun (j : Nat) => vD g (↑j : Int)) i).snd))).fst
 (metZ (↑g.len : Int) (↑i : Int) (ofLo (g.el (↑i : Int).toNat (0 : Nat)).toI (g.el (↑i : Int).toNat (0 : Nat)).toI)
 (ofHi (g.el (↑i : Int).toNat (0 : Nat)).toI (g.el (↑i : Int).toNat (0 : Nat)).toI)
 (fgZ (↑g.len : Int) (↑i : Int)
 ((rowZ (↑g.len : Int) (fun (j : Nat) => vD g (↑j : Int)) i).fst,
 (rowZ (↑g.len : Int) (fun (j : Nat) => vD g (↑j : Int)) i).snd))).snd
 (↑j : Int)),
 D.i
 (itvHi (↑g.len : Int)
 (metZ (↑g.len : Int) (↑i : Int) (ofLo (g.el (↑i : Int).toNat (0 : Nat)).toI (g.el (↑i : Int).toNat (0 : Nat)).toI)
 (ofHi (g.el (↑i : Int).toNat (0 : Nat)).toI (g.el (↑i : Int).toNat (0 : Nat)).toI)
 (fgZ (↑g.len : Int) (↑i : Int)
 ((rowZ (↑g.len : Int) (fun (j : Nat) => vD g (↑j : Int)) i).fst,
 (rowZ (↑g.len : Int) (fun (j : Nat) => vD g (↑j : Int)) i).snd))).fst
 (metZ (↑g.len : Int) (↑i : Int) (ofLo (g.el (↑i : Int).toNat (0 : Nat)).toI (g.el (↑i : Int).toNat (0 : Nat)).toI)
 (ofHi (g.el (↑i : Int).toNat (0 : Nat)).toI (g.el (↑i : Int).toNat (0 : Nat)).toI)
 (fgZ (↑g.len : Int) (↑i : Int)
 ((rowZ (↑g.len : Int) (fun (j : Nat) => vD g (↑j : Int)) i).fst,
 (rowZ (↑g.len : Int) (fun (j : Nat) => vD g (↑j : Int)) i).snd))).snd
 (↑j : Int))])
 (List.range (itD g.len (↑g.len : Int) (rowZ (↑g.len : Int) (fun (j : Nat) => vD g (↑j : Int)) i)).len) =
 List.map
 (fun (j_1 : Nat) =>
 [D.i
 (itvLo (↑g.len : Int) (rowZ (↑g.len : Int) (fun (j : Nat) => vD g (↑j : Int)) j).fst
 (rowZ (↑g.len : Int) (fun (j : Nat) => vD g (↑j : Int)) j).snd (↑j_1 : Int)),
 D.i
 (itvHi (↑g.len : Int) (rowZ (↑g.len : Int) (fun (j : Nat) => vD g (↑j : Int)) j).fst
 (rowZ (↑g.len : Int) (fun (j : Nat) => vD g (↑j : Int)) j).snd (↑j_1 : Int))])
 (List.range g.len) ∧
 (↑g.len : Int) = (↑g.len : Int) ∧
 (metZ (↑g.len : Int) (↑i : Int) (ofLo (g.el (↑i : Int).toNat (0 : Nat)).toI (g.el (↑i : Int).toNat (0 : Nat)).toI)
 (ofHi (g.el (↑i : Int).toNat (0 : Nat)).toI (g.el (↑i : Int).toNat (0 : Nat)).toI)
 (fgZ (↑g.len : Int) (↑i : Int)
 ((rowZ (↑g.len : Int) (fun (j : Nat) => vD g (↑j : Int)) i).fst,
 (rowZ (↑g.len : Int) (fun (j : Nat) => vD g (↑j : Int)) i).snd))).fst =
 (rowZ (↑g.len : Int) (fun (j : Nat) => vD g (↑j : Int)) j).fst ∧
 (∀ (o : Nat),
 o < nat_lit 49 →
 (metZ (↑g.len : Int) (↑i : Int) (ofLo (g.el (↑i : Int).toNat (0 : Nat)).toI (g.el (↑i : Int).toNat (0 : Nat)).toI)
 (ofHi (g.el (↑i : Int).toNat (0 : Nat)).toI (g.el (↑i : Int).toNat (0 : Nat)).toI)
 (fgZ (↑g.len : Int) (↑i : Int)
 ((rowZ (↑g.len : Int) (fun (j : Nat) => vD g (↑j : Int)) i).fst,
 (rowZ (↑g.len : Int) (fun (j : Nat) => vD g (↑j : Int)) i).snd))).snd
 o =
 (rowZ (↑g.len : Int) (fun (j : Nat) => vD g (↑j : Int)) j).snd o) ∧
 false = false ∧ (0 : Int) = (0 : Int) ∧ false = false ∧ ∀ (o : Nat), o < nat_lit 49 → (0 : Int) = (0 : Int)) ∧
 (decide ((↑i : Int) < (↑g.len : Int)) = false →
 (rowZ (↑g.len : Int) (fun (j : Nat) => vD g (↑j : Int)) i).fst = (rowZ (↑g.len : Int) (fun (j : Nat) => vD g (↑j : Int)) g.len).fst ∧
 List.map
 (fun (j : Nat) =>
 [D.i
 (itvLo (↑g.len : Int) (rowZ (↑g.len : Int) (fun (j : Nat) => vD g (↑j : Int)) i).fst
 (rowZ (↑g.len : Int) (fun (j : Nat) => vD g (↑j : Int)) i).snd (↑j : Int)),
 D.i
 (itvHi (↑g.len : Int) (rowZ (↑g.len : Int) (fun (j : Nat) => vD g (↑j : Int)) i).fst
 (rowZ (↑g.len : Int) (fun (j : Nat) => vD g (↑j : Int)) i).snd (↑j : Int))])
 (List.range g.len) =
 List.map
 (fun (j : Nat) =>
 [D.i
 (itvLo (↑g.len : Int) (rowZ (↑g.len : Int) (fun (j : Nat) => vD g (↑j : Int)) g.len).fst
 (rowZ (↑g.len : Int) (fun (j : Nat) => vD g (↑j : Int)) g.len).snd (↑j : Int)),
 D.i
 (itvHi (↑g.len : Int) (rowZ (↑g.len : Int) (fun (j : Nat) => vD g (↑j : Int)) g.len).fst
 (rowZ (↑g.len : Int) (fun (j : Nat) => vD g (↑j : Int)) g.len).snd (↑j : Int))])
 (List.range g.len) ∧
 (↑g.len : Int) = (↑g.len : Int) ∧
 (rowZ (↑g.len : Int) (fun (j : Nat) => vD g (↑j : Int)) i).fst = (rowZ (↑g.len : Int) (fun (j : Nat) => vD g (↑j : Int)) g.len).fst ∧
 ∀ (o : Nat),
 o < nat_lit 49 →
 (rowZ (↑g.len : Int) (fun (j : Nat) => vD g (↑j : Int)) i).snd o = (rowZ (↑g.len : Int) (fun (j : Nat) => vD g (↑j : Int)) g.len).snd o)) (by kernel_rfl) ?_
    intro hg
    have tn : topN (g.len : Int) = g.len := by unfold topN; omega
    rw [tn]
    simp only [Int.toNat_natCast, itD_len]
    refine ⟨⟨0, ?_⟩, fun i hi => ⟨fun h => ?_, fun h => ?_⟩⟩
    · (repeat' apply And.intro) <;> first | exact Nat.zero_le _ | rfl | trivial | exact fun _ _ => rfl
    · have h : i < g.len := by simpa using h
      have gz : Good (g.len : Int) (rowZ (g.len : Int) (fun j => vD g (j : Nat)) i) := good_row (by omega) _ _
      refine ⟨by omega, gz, by omega, i + 1, h, by omega, wr _ (by omega), ?_⟩
      (repeat' apply And.intro) <;> first | rfl | trivial | exact fun _ _ => rfl
    · have h : ¬ i < g.len := by simpa using h
      have : i ≤ g.len := hi
      have e : i = g.len := by omega
      rw [e]
      (repeat' apply And.intro) <;> first | rfl | trivial | exact fun _ _ => rfl
  · trivial
noncomputable def nrowsS : List Dat → Option Eff := fun ds => match ds with
  | [.f a, .f b, .b w] => some { val := .tup [.agg [.c (.bool (.sym (jnZ 3 (rowZ 3 a 3) (rowZ 3 b 3) : Zs).1)), .c (.rows 48 (itD (3) (3) (jnZ 3 (rowZ 3 a 3) (rowZ 3 b 3)))), .c (.int .i64 (.sym (3))), .c (.bool (.sym (jnZ 3 (rowZ 3 a 3) (rowZ 3 b 3) : Zs).1)), .ints .i64 (.lit 49) (jnZ 3 (rowZ 3 a 3) (rowZ 3 b 3) : Zs).2], .sc (.osl 3 0 (.lit 0) (.lit 3))], vc := [∀ j, j < 3 → (-2147483648 ≤ a j ∧ a j ≤ 2147483647) ∧ (-2147483648 ≤ b j ∧ b j ≤ 2147483647)], nw := [(0, .orow 3 (rowI 3 (fun j => if w = true then b j else a j)))] }
  | _ => none
noncomputable def nrowsC : Con := conS [.agg [.ints .i32 3, .ints .i32 3, .c .bool]] nrowsS
theorem nrows_ok : ConOK Try.prog 40 nrowsC := by
  refine fn_obS tt_ok mixed Try.func40 rfl (fun _ _ => by kernel_rfl) (A := fun ds => ⟨fun _ => Cons.of [(53, nzerosC), (34, iconstC), (52, nsetC), (84, njoinC)], fun k => match k, ds with | 3, [.f a, .f b, .b w] => some { ι := Nat, pre := fun _ i => i ≤ 3, μ := fun i => 9 - i, st := fun s i => famR s [(6, .one (.sc (.int .i64 (.sym ((i : Nat))))))] [1, 2, 3, 4, 5] [(idOf s 4, .own 91 ([.c (.bool (.sym (rowZ 3 a i : Zs).1)), .c (.rows 48 (itD (3) (3) (rowZ 3 a i))), .c (.int .i64 (.sym (3))), .c (.bool (.sym (rowZ 3 a i : Zs).1)), .ints .i64 (.lit 49) (rowZ 3 a i : Zs).2])), (idOf s 5, .own 91 ([.c (.bool (.sym (rowZ 3 b i : Zs).1)), .c (.rows 48 (itD (3) (3) (rowZ 3 b i))), .c (.int .i64 (.sym (3))), .c (.bool (.sym (rowZ 3 b i : Zs).1)), .ints .i64 (.lit 49) (rowZ 3 b i : Zs).2]))] [1, 2] } | _, _ => none, fun _ => none⟩) (fun _ _ => (cons_cons nzeros_ok (cons_cons iconst_ok (cons_cons nset_ok (cons_cons njoin_ok cons_nil))))) (by kernel_rfl) ?_
  intro ds
  unfold nrowsS
  split
  · rename_i a b w
    refine kmp (q := (∀ (j : Nat), j < (3 : Nat) → ((-2147483648 : Int) ≤ a j ∧ a j ≤ (2147483647 : Int)) ∧ (-2147483648 : Int) ≤ b j ∧ b j ≤ (2147483647 : Int)) →
 (∃ (i : Nat),
 i.le (3 : Nat) ∧
 (0 : Int) = (↑i : Int) ∧
 false = (rowZ (3 : Int) a i).fst ∧
 List.map
 (fun (j : Nat) =>
 [D.i (itvLo (topN (3 : Int)) false (fun (x : Nat) => (0 : Int)) (↑j : Int)),
 D.i (itvHi (topN (3 : Int)) false (fun (x : Nat) => (0 : Int)) (↑j : Int))])
 (List.range (topN (3 : Int)).toNat) =
 List.map
 (fun (j : Nat) =>
 [D.i (itvLo (3 : Int) (rowZ (3 : Int) a i).fst (rowZ (3 : Int) a i).snd (↑j : Int)),
 D.i (itvHi (3 : Int) (rowZ (3 : Int) a i).fst (rowZ (3 : Int) a i).snd (↑j : Int))])
 (List.range (3 : Nat)) ∧
 topN (3 : Int) = (3 : Int) ∧
 false = (rowZ (3 : Int) a i).fst ∧
 (∀ (o : Nat), o < nat_lit 49 → (0 : Int) = (rowZ (3 : Int) a i).snd o) ∧
 false = (rowZ (3 : Int) b i).fst ∧
 List.map
 (fun (j : Nat) =>
 [D.i (itvLo (topN (3 : Int)) false (fun (x : Nat) => (0 : Int)) (↑j : Int)),
 D.i (itvHi (topN (3 : Int)) false (fun (x : Nat) => (0 : Int)) (↑j : Int))])
 (List.range (topN (3 : Int)).toNat) =
 List.map
 (fun (j : Nat) =>
 [D.i (itvLo (3 : Int) (rowZ (3 : Int) b i).fst (rowZ (3 : Int) b i).snd (↑j : Int)),
 D.i (itvHi (3 : Int) (rowZ (3 : Int) b i).fst (rowZ (3 : Int) b i).snd (↑j : Int))])
 (List.range (3 : Nat)) ∧
 topN (3 : Int) = (3 : Int) ∧
 false = (rowZ (3 : Int) b i).fst ∧
 (∀ (o : Nat), o < nat_lit 49 → (0 : Int) = (rowZ (3 : Int) b i).snd o) ∧
 (∀ (o : Nat), o < nat_lit 3 → a o = a o) ∧
 (∀ (o : Nat), o < nat_lit 3 → b o = b o) ∧
 w = w ∧ false = false ∧ (0 : Int) = (0 : Int) ∧ false = false ∧ ∀ (o : Nat), o < nat_lit 49 → (0 : Int) = (0 : Int)) ∧
 ∀ (i : Nat),
 i.le (3 : Nat) →
 (decide ((↑i : Int) < (3 : Int)) = true →
 ((0 : Int) ≤ (↑i : Int) ∧ (↑i : Int) < (↑(3 : Nat) : Int)) ∧
 nat_lit 0 + (0 : Nat) + (↑i : Int).toNat * (1 : Nat) < nat_lit 3 ∧
 Good (3 : Int) ((rowZ (3 : Int) a i).fst, (rowZ (3 : Int) a i).snd) ∧
 (itD (3 : Nat) (3 : Int) (rowZ (3 : Int) a i)).len ≤ (1000 : Nat) ∧
 ((0 : Int) ≤ (↑i : Int) ∧ (↑i : Int) < (↑(3 : Nat) : Int)) ∧
 nat_lit 0 + (3 : Nat) - nat_lit 3 + (↑i : Int).toNat * (1 : Nat) < nat_lit 3 ∧
 Good (3 : Int) ((rowZ (3 : Int) b i).fst, (rowZ (3 : Int) b i).snd) ∧
 (itD (3 : Nat) (3 : Int) (rowZ (3 : Int) b i)).len ≤ (1000 : Nat) ∧
 ∃ (j : Nat),
 j.le (3 : Nat) ∧
 (9 : Nat) - j < (9 : Nat) - i ∧
 IntKind.i64.wrap ((↑i : Int) + (1 : Int)) = (↑j : Int) ∧
 (metZ (3 : Int) (↑i : Int)
 (ofLo (IntKind.i64.wrap (a (nat_lit 0 + (0 : Nat) + (↑i : Int).toNat * (1 : Nat))))
 (IntKind.i64.wrap (a (nat_lit 0 + (0 : Nat) + (↑i : Int).toNat * (1 : Nat)))))
 (ofHi (IntKind.i64.wrap (a (nat_lit 0 + (0 : Nat) + (↑i : Int).toNat * (1 : Nat))))
 (IntKind.i64.wrap (a (nat_lit 0 + (0 : Nat) + (↑i : Int).toNat * (1 : Nat)))))
 (fgZ (3 : Int) (↑i : Int) ((rowZ (3 : Int) a i).fst, (rowZ (3 : Int) a i).snd))).fst =
 (rowZ (3 : Int) a j).fst ∧
 List.map
 (fun (j : Nat) =>
 [D.i
 (itvLo (3 : Int)
 (metZ (3 : Int) (↑i : Int)
 (ofLo (IntKind.i64.wrap (a (nat_lit 0 + (0 : Nat) + (↑i : Int).toNat * (1 : Nat))))
 (IntKind.i64.wrap (a (nat_lit 0 + (0 : Nat) + (↑i : Int).toNat * (1 : Nat)))))
 (ofHi (IntKind.i64.wrap (a (nat_lit 0 + (0 : Nat) + (↑i : Int).toNat * (1 : Nat))))
 (IntKind.i64.wrap (a (nat_lit 0 + (0 : Nat) + (↑i : Int).toNat * (1 : Nat)))))
 (fgZ (3 : Int) (↑i : Int) ((rowZ (3 : Int) a i).fst, (rowZ (3 : Int) a i).snd))).fst
 (metZ (3 : Int) (↑i : Int)
 (ofLo (IntKind.i64.wrap (a (nat_lit 0 + (0 : Nat) + (↑i : Int).toNat * (1 : Nat))))
 (IntKind.i64.wrap (a (nat_lit 0 + (0 : Nat) + (↑i : Int).toNat * (1 : Nat)))))
 (ofHi (IntKind.i64.wrap (a (nat_lit 0 + (0 : Nat) + (↑i : Int).toNat * (1 : Nat))))
 (IntKind.i64.wrap (a (nat_lit 0 + (0 : Nat) + (↑i : Int).toNat * (1 : Nat)))))
 (fgZ (3 : Int) (↑i : Int) ((rowZ (3 : Int) a i).fst, (rowZ (3 : Int) a i).snd))).snd
 (↑j : Int)),
 D.i
 (itvHi (3 : Int)
 (metZ (3 : Int) (↑i : Int)
 (ofLo (IntKind.i64.wrap (a (nat_lit 0 + (0 : Nat) + (↑i : Int).toNat * (1 : Nat))))
 (IntKind.i64.wrap (a (nat_lit 0 + (0 : Nat) + (↑i : Int).toNat * (1 : Nat)))))
 (ofHi (IntKind.i64.wrap (a (nat_lit 0 + (0 : Nat) + (↑i : Int).toNat * (1 : Nat))))
 (IntKind.i64.wrap (a (nat_lit 0 + (0 : Nat) + (↑i : Int).toNat * (1 : Nat)))))
 (fgZ (3 : Int) (↑i : Int) ((rowZ (3 : Int) a i).fst, (rowZ (3 : Int) a i).snd))).fst
 (metZ (3 : Int) (↑i : Int)
 (ofLo (IntKind.i64.wrap (a (nat_lit 0 + (0 : Nat) + (↑i : Int).toNat * (1 : Nat))))
 (IntKind.i64.wrap (a (nat_lit 0 + (0 : Nat) + (↑i : Int).toNat * (1 : Nat)))))
 (ofHi (IntKind.i64.wrap (a (nat_lit 0 + (0 : Nat) + (↑i : Int).toNat * (1 : Nat))))
 (IntKind.i64.wrap (a (nat_lit 0 + (0 : Nat) + (↑i : Int).toNat * (1 : Nat)))))
 (fgZ (3 : Int) (↑i : Int) ((rowZ (3 : Int) a i).fst, (rowZ (3 : Int) a i).snd))).snd
 (↑j : Int))])
 (List.range (itD (3 : Nat) (3 : Int) (rowZ (3 : Int) a i)).len) =
 List.map
 (fun (j_1 : Nat) =>
 [D.i (itvLo (3 : Int) (rowZ (3 : Int) a j).fst (rowZ (3 : Int) a j).snd (↑j_1 : Int)),
 D.i (itvHi (3 : Int) (rowZ (3 : Int) a j).fst (rowZ (3 : Int) a j).snd (↑j_1 : Int))])
 (List.range (3 : Nat)) ∧
 (3 : Int) = (3 : Int) ∧
 (metZ (3 : Int) (↑i : Int)
 (ofLo (IntKind.i64.wrap (a (nat_lit 0 + (0 : Nat) + (↑i : Int).toNat * (1 : Nat))))
 (IntKind.i64.wrap (a (nat_lit 0 + (0 : Nat) + (↑i : Int).toNat * (1 : Nat)))))
 (ofHi (IntKind.i64.wrap (a (nat_lit 0 + (0 : Nat) + (↑i : Int).toNat * (1 : Nat))))
 (IntKind.i64.wrap (a (nat_lit 0 + (0 : Nat) + (↑i : Int).toNat * (1 : Nat)))))
 (fgZ (3 : Int) (↑i : Int) ((rowZ (3 : Int) a i).fst, (rowZ (3 : Int) a i).snd))).fst =
 (rowZ (3 : Int) a j).fst ∧
 (∀ (o : Nat),
 o < nat_lit 49 →
 (metZ (3 : Int) (↑i : Int)
 (ofLo (IntKind.i64.wrap (a (nat_lit 0 + (0 : Nat) + (↑i : Int).toNat * (1 : Nat))))
 (IntKind.i64.wrap (a (nat_lit 0 + (0 : Nat) + (↑i : Int).toNat * (1 : Nat)))))
 (ofHi (IntKind.i64.wrap (a (nat_lit 0 + (0 : Nat) + (↑i : Int).toNat * (1 : Nat))))
 (IntKind.i64.wrap (a (nat_lit 0 + (0 : Nat) + (↑i : Int).toNat * (1 : Nat)))))
 (fgZ (3 : Int) (↑i : Int) ((rowZ (3 : Int) a i).fst, (rowZ (3 : Int) a i).snd))).snd
 o =
 (rowZ (3 : Int) a j).snd o) ∧
 (metZ (3 : Int) (↑i : Int)
 (ofLo (IntKind.i64.wrap (b (nat_lit 0 + (3 : Nat) - nat_lit 3 + (↑i : Int).toNat * (1 : Nat))))
 (IntKind.i64.wrap (b (nat_lit 0 + (3 : Nat) - nat_lit 3 + (↑i : Int).toNat * (1 : Nat)))))
 (ofHi (IntKind.i64.wrap (b (nat_lit 0 + (3 : Nat) - nat_lit 3 + (↑i : Int).toNat * (1 : Nat))))
 (IntKind.i64.wrap (b (nat_lit 0 + (3 : Nat) - nat_lit 3 + (↑i : Int).toNat * (1 : Nat)))))
 (fgZ (3 : Int) (↑i : Int) ((rowZ (3 : Int) b i).fst, (rowZ (3 : Int) b i).snd))).fst =
 (rowZ (3 : Int) b j).fst ∧
 List.map
 (fun (j : Nat) =>
 [D.i
 (itvLo (3 : Int)
 (metZ (3 : Int) (↑i : Int)
 (ofLo
 (IntKind.i64.wrap (b (nat_lit 0 + (3 : Nat) - nat_lit 3 + (↑i : Int).toNat * (1 : Nat))))
 (IntKind.i64.wrap (b (nat_lit 0 + (3 : Nat) - nat_lit 3 + (↑i : Int).toNat * (1 : Nat)))))
 (ofHi
 (IntKind.i64.wrap (b (nat_lit 0 + (3 : Nat) - nat_lit 3 + (↑i : Int).toNat * (1 : Nat))))
 (IntKind.i64.wrap (b (nat_lit 0 + (3 : Nat) - nat_lit 3 + (↑i : Int).toNat * (1 : Nat)))))
 (fgZ (3 : Int) (↑i : Int) ((rowZ (3 : Int) b i).fst, (rowZ (3 : Int) b i).snd))).fst
 (metZ (3 : Int) (↑i : Int)
 (ofLo
 (IntKind.i64.wrap (b (nat_lit 0 + (3 : Nat) - nat_lit 3 + (↑i : Int).toNat * (1 : Nat))))
 (IntKind.i64.wrap (b (nat_lit 0 + (3 : Nat) - nat_lit 3 + (↑i : Int).toNat * (1 : Nat)))))
 (ofHi
 (IntKind.i64.wrap (b (nat_lit 0 + (3 : Nat) - nat_lit 3 + (↑i : Int).toNat * (1 : Nat))))
 (IntKind.i64.wrap (b (nat_lit 0 + (3 : Nat) - nat_lit 3 + (↑i : Int).toNat * (1 : Nat)))))
 (fgZ (3 : Int) (↑i : Int) ((rowZ (3 : Int) b i).fst, (rowZ (3 : Int) b i).snd))).snd
 (↑j : Int)),
 D.i
 (itvHi (3 : Int)
 (metZ (3 : Int) (↑i : Int)
 (ofLo
 (IntKind.i64.wrap (b (nat_lit 0 + (3 : Nat) - nat_lit 3 + (↑i : Int).toNat * (1 : Nat))))
 (IntKind.i64.wrap (b (nat_lit 0 + (3 : Nat) - nat_lit 3 + (↑i : Int).toNat * (1 : Nat)))))
 (ofHi
 (IntKind.i64.wrap (b (nat_lit 0 + (3 : Nat) - nat_lit 3 + (↑i : Int).toNat * (1 : Nat))))
 (IntKind.i64.wrap (b (nat_lit 0 + (3 : Nat) - nat_lit 3 + (↑i : Int).toNat * (1 : Nat)))))
 (fgZ (3 : Int) (↑i : Int) ((rowZ (3 : Int) b i).fst, (rowZ (3 : Int) b i).snd))).fst
 (metZ (3 : Int) (↑i : Int)
 (ofLo
 (IntKind.i64.wrap (b (nat_lit 0 + (3 : Nat) - nat_lit 3 + (↑i : Int).toNat * (1 : Nat))))
 (IntKind.i64.wrap (b (nat_lit 0 + (3 : Nat) - nat_lit 3 + (↑i : Int).toNat * (1 : Nat)))))
 (ofHi
 (IntKind.i64.wrap (b (nat_lit 0 + (3 : Nat) - nat_lit 3 + (↑i : Int).toNat * (1 : Nat))))
 (IntKind.i64.wrap (b (nat_lit 0 + (3 : Nat) - nat_lit 3 + (↑i : Int).toNat * (1 : Nat)))))
 (fgZ (3 : Int) (↑i : Int) ((rowZ (3 : Int) b i).fst, (rowZ (3 : Int) b i).snd))).snd
 (↑j : Int))])
 (List.range (itD (3 : Nat) (3 : Int) (rowZ (3 : Int) b i)).len) =
 List.map
 (fun (j_1 : Nat) =>
 [D.i (itvLo (3 : Int) (rowZ (3 : Int) b j).fst (rowZ (3 : Int) b j).snd (↑j_1 : Int)),
 D.i (itvHi (3 : Int) (rowZ (3 : Int) b j).fst (rowZ (3 : Int) b j).snd (↑j_1 : Int))])
 (List.range (3 : Nat)) ∧
 (3 : Int) = (3 : Int) ∧
 (metZ (3 : Int) (↑i : Int)
 (ofLo (IntKind.i64.wrap (b (nat_lit 0 + (3 : Nat) - nat_lit 3 + (↑i : Int).toNat * (1 : Nat))))
 (IntKind.i64.wrap (b (nat_lit 0 + (3 : Nat) - nat_lit 3 + (↑i : Int).toNat * (1 : Nat)))))
 (ofHi (IntKind.i64.wrap (b (nat_lit 0 + (3 : Nat) - nat_lit 3 + (↑i : Int).toNat * (1 : Nat))))
 (IntKind.i64.wrap (b (nat_lit 0 + (3 : Nat) - nat_lit 3 + (↑i : Int).toNat * (1 : Nat)))))
 (fgZ (3 : Int) (↑i : Int) ((rowZ (3 : Int) b i).fst, (rowZ (3 : Int) b i).snd))).fst =
 (rowZ (3 : Int) b j).fst ∧
 (∀ (o : Nat),
 o < nat_lit 49 →
 (metZ (3 : Int) (↑i : Int)
 (ofLo
 (IntKind.i64.wrap (b (nat_lit 0 + (3 : Nat) - nat_lit 3 + (↑i : Int).toNat * (1 : Nat))))
 (IntKind.i64.wrap (b (nat_lit 0 + (3 : Nat) - nat_lit 3 + (↑i : Int).toNat * (1 : Nat)))))
 (ofHi
 (IntKind.i64.wrap (b (nat_lit 0 + (3 : Nat) - nat_lit 3 + (↑i : Int).toNat * (1 : Nat))))
 (IntKind.i64.wrap (b (nat_lit 0 + (3 : Nat) - nat_lit 3 + (↑i : Int).toNat * (1 : Nat)))))
 (fgZ (3 : Int) (↑i : Int) ((rowZ (3 : Int) b i).fst, (rowZ (3 : Int) b i).snd))).snd
 o =
 (rowZ (3 : Int) b j).snd o) ∧
 (∀ (o : Nat), o < nat_lit 3 → a o = a o) ∧
 (∀ (o : Nat), o < nat_lit 3 → b o = b o) ∧
 w = w ∧
 false = false ∧
 (0 : Int) = (0 : Int) ∧ false = false ∧ ∀ (o : Nat), o < nat_lit 49 → (0 : Int) = (0 : Int)) ∧
 (decide ((↑i : Int) < (3 : Int)) = false →
 (w = true →
 Good (3 : Int) ((rowZ (3 : Int) a i).fst, (rowZ (3 : Int) a i).snd) ∧
 Good (3 : Int) ((rowZ (3 : Int) b i).fst, (rowZ (3 : Int) b i).snd) ∧
 (itD (3 : Nat) (3 : Int) (rowZ (3 : Int) a i)).len ≤ (1000 : Nat) ∧
 jnC (3 : Int) (rowZ (3 : Int) a i).fst (3 : Int) (rowZ (3 : Int) b i).fst =
 (jnZ (3 : Int) (rowZ (3 : Int) a (3 : Nat)) (rowZ (3 : Int) b (3 : Nat))).fst ∧
 List.map
 (fun (j : Nat) =>
 [D.i
 (itvLo (3 : Int) (jnC (3 : Int) (rowZ (3 : Int) a i).fst (3 : Int) (rowZ (3 : Int) b i).fst)
 (jnF (3 : Int) (rowZ (3 : Int) a i).fst (rowZ (3 : Int) a i).snd (3 : Int) (rowZ (3 : Int) b i).fst
 (rowZ (3 : Int) b i).snd)
 (↑j : Int)),
 D.i
 (itvHi (3 : Int) (jnC (3 : Int) (rowZ (3 : Int) a i).fst (3 : Int) (rowZ (3 : Int) b i).fst)
 (jnF (3 : Int) (rowZ (3 : Int) a i).fst (rowZ (3 : Int) a i).snd (3 : Int) (rowZ (3 : Int) b i).fst
 (rowZ (3 : Int) b i).snd)
 (↑j : Int))])
 (List.range (itD (3 : Nat) (3 : Int) (rowZ (3 : Int) a i)).len) =
 List.map
 (fun (j : Nat) =>
 [D.i
 (itvLo (3 : Int) (jnZ (3 : Int) (rowZ (3 : Int) a (3 : Nat)) (rowZ (3 : Int) b (3 : Nat))).fst
 (jnZ (3 : Int) (rowZ (3 : Int) a (3 : Nat)) (rowZ (3 : Int) b (3 : Nat))).snd (↑j : Int)),
 D.i
 (itvHi (3 : Int) (jnZ (3 : Int) (rowZ (3 : Int) a (3 : Nat)) (rowZ (3 : Int) b (3 : Nat))).fst
 (jnZ (3 : Int) (rowZ (3 : Int) a (3 : Nat)) (rowZ (3 : Int) b (3 : Nat))).snd (↑j : Int))])
 (List.range (3 : Nat)) ∧
 (3 : Int) = (3 : Int) ∧
 jnC (3 : Int) (rowZ (3 : Int) a i).fst (3 : Int) (rowZ (3 : Int) b i).fst =
 (jnZ (3 : Int) (rowZ (3 : Int) a (3 : Nat)) (rowZ (3 : Int) b (3 : Nat))).fst ∧
 (∀ (o : Nat),
 o < nat_lit 49 →
 jnF (3 : Int) (rowZ (3 : Int) a i).fst (rowZ (3 : Int) a i).snd (3 : Int) (rowZ (3 : Int) b i).fst (rowZ (3 : Int) b i).snd
 o =
 (jnZ (3 : Int) (rowZ (3 : Int) a (3 : Nat)) (rowZ (3 : Int) b (3 : Nat))).snd o) ∧
 nat_lit 3 = (3 : Nat) ∧
 [[D.i (IntKind.i64.wrap (b (nat_lit 0 + (3 : Nat) + nat_lit 0 * (1 : Nat) - nat_lit 3)))],
 [D.i (IntKind.i64.wrap (b (nat_lit 0 + (3 : Nat) + nat_lit 1 * (1 : Nat) - nat_lit 3)))],
 [D.i (IntKind.i64.wrap (b (nat_lit 0 + (3 : Nat) + nat_lit 2 * (1 : Nat) - nat_lit 3)))]] =
 List.map (fun (j : Nat) => [D.i (if w = true then b j else a j)]) (List.range (3 : Nat))) ∧
 (w = false →
 Good (3 : Int) ((rowZ (3 : Int) a i).fst, (rowZ (3 : Int) a i).snd) ∧
 Good (3 : Int) ((rowZ (3 : Int) b i).fst, (rowZ (3 : Int) b i).snd) ∧
 (itD (3 : Nat) (3 : Int) (rowZ (3 : Int) a i)).len ≤ (1000 : Nat) ∧
 jnC (3 : Int) (rowZ (3 : Int) a i).fst (3 : Int) (rowZ (3 : Int) b i).fst =
 (jnZ (3 : Int) (rowZ (3 : Int) a (3 : Nat)) (rowZ (3 : Int) b (3 : Nat))).fst ∧
 List.map
 (fun (j : Nat) =>
 [D.i
 (itvLo (3 : Int) (jnC (3 : Int) (rowZ (3 : Int) a i).fst (3 : Int) (rowZ (3 : Int) b i).fst)
 (jnF (3 : Int) (rowZ (3 : Int) a i).fst (rowZ (3 : Int) a i).snd (3 : Int) (rowZ (3 : Int) b i).fst
 (rowZ (3 : Int) b i).snd)
 (↑j : Int)),
 D.i
 (itvHi (3 : Int) (jnC (3 : Int) (rowZ (3 : Int) a i).fst (3 : Int) (rowZ (3 : Int) b i).fst)
 (jnF (3 : Int) (rowZ (3 : Int) a i).fst (rowZ (3 : Int) a i).snd (3 : Int) (rowZ (3 : Int) b i).fst
 (rowZ (3 : Int) b i).snd)
 (↑j : Int))])
 (List.range (itD (3 : Nat) (3 : Int) (rowZ (3 : Int) a i)).len) =
 List.map
 (fun (j : Nat) =>
 [D.i
 (itvLo (3 : Int) (jnZ (3 : Int) (rowZ (3 : Int) a (3 : Nat)) (rowZ (3 : Int) b (3 : Nat))).fst
 (jnZ (3 : Int) (rowZ (3 : Int) a (3 : Nat)) (rowZ (3 : Int) b (3 : Nat))).snd (↑j : Int)),
 D.i
 (itvHi (3 : Int) (jnZ (3 : Int) (rowZ (3 : Int) a (3 : Nat)) (rowZ (3 : Int) b (3 : Nat))).fst
 (jnZ (3 : Int) (rowZ (3 : Int) a (3 : Nat)) (rowZ (3 : Int) b (3 : Nat))).snd (↑j : Int))])
 (List.range (3 : Nat)) ∧
 (3 : Int) = (3 : Int) ∧
 jnC (3 : Int) (rowZ (3 : Int) a i).fst (3 : Int) (rowZ (3 : Int) b i).fst =
 (jnZ (3 : Int) (rowZ (3 : Int) a (3 : Nat)) (rowZ (3 : Int) b (3 : Nat))).fst ∧
 (∀ (o : Nat),
 o < nat_lit 49 →
 jnF (3 : Int) (rowZ (3 : Int) a i).fst (rowZ (3 : Int) a i).snd (3 : Int) (rowZ (3 : Int) b i).fst (rowZ (3 : Int) b i).snd
 o =
 (jnZ (3 : Int) (rowZ (3 : Int) a (3 : Nat)) (rowZ (3 : Int) b (3 : Nat))).snd o) ∧
 nat_lit 3 = (3 : Nat) ∧
 [[D.i (IntKind.i64.wrap (a (nat_lit 0 + (0 : Nat) + nat_lit 0 * (1 : Nat))))],
 [D.i (IntKind.i64.wrap (a (nat_lit 0 + (0 : Nat) + nat_lit 1 * (1 : Nat))))],
 [D.i (IntKind.i64.wrap (a (nat_lit 0 + (0 : Nat) + nat_lit 2 * (1 : Nat))))]] =
 List.map (fun (j : Nat) => [D.i (if w = true then b j else a j)]) (List.range (3 : Nat))))) (by kernel_rfl) ?_
    intro hab
    have tn : topN 3 = 3 := rfl
    have c0 : ∀ i : Nat, 0 + 0 + (i : Int).toNat * 1 = i := fun i => by omega
    have c3 : ∀ i : Nat, 0 + 3 - 3 + (i : Int).toNat * 1 = i := fun i => by omega
    rw [tn]
    have wa : ∀ j, j < 3 → IntKind.i64.wrap (a j) = a j := fun j hj => wr _ (by have := hab j hj; omega)
    have wb : ∀ j, j < 3 → IntKind.i64.wrap (b j) = b j := fun j hj => wr _ (by have := hab j hj; omega)
    refine ⟨⟨0, ?_⟩, fun i hi => ⟨fun h => ?_, fun h => ?_⟩⟩
    · (repeat' apply And.intro) <;> first | exact Nat.zero_le _ | rfl | trivial | exact fun _ _ => rfl
    · have h : i < 3 := by simp at h; omega
      have ga : Good 3 (rowZ 3 a i) := good_row (by omega) _ _
      have gb : Good 3 (rowZ 3 b i) := good_row (by omega) _ _
      simp only [c0, wa i h, wb i h, itD_len]
      refine ⟨by omega, by omega, ga, by omega, by omega, by omega, gb, by omega, i + 1, h, by omega, wr _ (by omega), ?_⟩
      (repeat' apply And.intro) <;> first | rfl | trivial | exact fun _ _ => rfl
    · have h : ¬ i < 3 := by simp at h; omega
      have : i ≤ 3 := hi
      have e : i = 3 := by omega
      subst e
      have ga : Good 3 (rowZ 3 a 3) := good_row (by omega) _ _
      have gb : Good 3 (rowZ 3 b 3) := good_row (by omega) _ _
      rw [itD_len]
      refine ⟨fun hw => ?_, fun hw => ?_⟩
      · subst hw
        refine ⟨ga, gb, by omega, ?_⟩
        have e3 : [[D.i (IntKind.i64.wrap (b 0))], [D.i (IntKind.i64.wrap (b 1))], [D.i (IntKind.i64.wrap (b 2))]] = [[D.i (b 0)], [D.i (b 1)], [D.i (b 2)]] := by
          rw [wb 0 (by omega), wb 1 (by omega), wb 2 (by omega)]
        (repeat' apply And.intro) <;> first | rfl | trivial | exact fun _ _ => rfl | exact e3
      · subst hw
        refine ⟨ga, gb, by omega, ?_⟩
        have e3 : [[D.i (IntKind.i64.wrap (a 0))], [D.i (IntKind.i64.wrap (a 1))], [D.i (IntKind.i64.wrap (a 2))]] = [[D.i (a 0)], [D.i (a 1)], [D.i (a 2)]] := by
          rw [wa 0 (by omega), wa 1 (by omega), wa 2 (by omega)]
        (repeat' apply And.intro) <;> first | rfl | trivial | exact fun _ _ => rfl | exact e3
  · trivial
end Go.Proofs.Ytbcbcambkjhhhaa.Sx.Z
