/-
  A channel's tags, and its words.
-/
import Derived.Test.YtomodncooiddaaaDoorRec
namespace Go.Proofs.YtomodncooiddaaaDoor.Sx.Z
open Go.RowKit
def tgL (vs : D) : Nat → List Nat
  | 0 => []
  | n + 1 => if (vs.el n 0).toI > (vs.el n 1).toI then tgL vs n else tgL vs n ++ [n]
def iD (l : List Nat) : D := .l (l.map fun (t : Nat) => [D.i (t : Int)])
theorem iD_len (l : List Nat) : (iD l).len = l.length := List.length_map ..
theorem iD_el {l : List Nat} {i : Nat} (h : i < l.length) : (iD l).el i 0 = .i ((l[i] : Nat) : Int) := by
  show ((l.map fun (t : Nat) => [D.i (t : Int)]).getD i []).getD 0 (.i 0) = _
  rw [List.getD_eq_getElem?_getD (l := l.map _), List.getElem?_map, List.getElem?_eq_getElem h]; rfl
theorem tgL_len (vs : D) (n : Nat) : (tgL vs n).length ≤ n := by
  induction n with
  | zero => exact Nat.le_refl _
  | succ n ih =>
    rw [tgL]
    split
    · omega
    · rw [List.length_append]; show _ + 1 ≤ _; omega
theorem tgL_mem {vs : D} {n t : Nat} (h : t ∈ tgL vs n) : t < n := by
  induction n with
  | zero => cases h
  | succ n ih =>
    rw [tgL] at h
    split at h
    · have := ih h; omega
    · rcases List.mem_append.1 h with h | h
      · have := ih h; omega
      · have := List.mem_singleton.1 h; omega
theorem bytD_len (l : List UInt8) : (bytD l).len = l.length := List.length_map ..
theorem bytD_app (a b : List UInt8) : (bytD a).app (bytD b) = bytD (a ++ b) := by
  show D.l (a.map _ ++ b.map _) = D.l ((a ++ b).map _)
  rw [List.map_append]
theorem bytD_el {l : List UInt8} {i : Nat} (h : i < l.length) : (bytD l).el i 0 = .i ((l[i].toNat : Nat) : Int) := by
  show ((l.map fun b => [D.i (b.toNat : Int)]).getD i []).getD 0 (.i 0) = _
  rw [List.getD_eq_getElem?_getD (l := l.map _), List.getElem?_map, List.getElem?_eq_getElem h]; rfl
theorem bytD_ok (l : List UInt8) : ∀ i, i < (bytD l).len → 0 ≤ ((bytD l).el i 0).toI ∧ ((bytD l).el i 0).toI < 256 := by
  intro i hi
  rw [bytD_len] at hi
  rw [bytD_el hi]
  have := l[i].toNat_lt
  exact ⟨Int.natCast_nonneg _, (by show ((l[i].toNat : Nat) : Int) < 256; omega)⟩
theorem bytB_bytD (l : List UInt8) : bytB (bytD l) = mkB l := by
  unfold bytB mkB
  rw [bytD_len]
  congr 2
  apply List.ext_getElem
  · simp
  · intro i h1 h2
    rw [List.getElem_map, List.getElem_range, bytD_el h2]
    show UInt8.ofNat ((l[i].toNat : Nat) : Int).toNat = _
    rw [Int.toNat_natCast]; simp
def bl (s : ByteArray) : List UInt8 := s.data.toList
theorem bl_len (s : ByteArray) : (bl s).length = s.size := Array.length_toList
theorem bl_app (a b : ByteArray) : bl (a ++ b) = bl a ++ bl b := by unfold bl; rw [ByteArray.data_append, Array.toList_append]
def msB : ByteArray := ⟨#[32, 109, 101, 115, 115, 97, 103, 101, 115]⟩
def taB : ByteArray := ⟨#[44, 32, 116, 97, 103, 32]⟩
def coB : ByteArray := ⟨#[58, 32]⟩
def tgT (vs : D) (t : Nat) : ByteArray := ((taB ++ itW (t : Int)) ++ coB) ++ itT (vs.el t 0).toI (vs.el t 1).toI
def elB (l h : Int) (vs : D) (ts : List Nat) : List UInt8 := bl (itT l h ++ msB) ++ ts.flatMap fun t => bl (tgT vs t)
def elT (l h : Int) (vs : D) : ByteArray := mkB (elB l h vs (tgL vs vs.len))
theorem tgT_size {vs : D} (h : itsOK vs) {t : Nat} (ht : t < vs.len) : (tgT vs t).size ≤ 75 := by
  obtain ⟨q1, q2⟩ := h.2 t ht
  have := itT_size q1 q2
  have h1 := itZ (n := (t : Int)) ⟨by omega, by have := h.1; omega⟩
  have h2 : taB.size = 6 := rfl
  have h3 : coB.size = 2 := rfl
  unfold tgT
  rw [ba_size, ba_size, ba_size]; omega
theorem flat_len {α : Type} {l : List α} {f : α → List UInt8} {k : Nat} (h : ∀ a ∈ l, (f a).length ≤ k) : (l.flatMap f).length ≤ l.length * k := by
  induction l with
  | nil => simp
  | cons a l ih =>
    have h1 := h a (by simp)
    have h2 := ih fun b hb => h b (by simp [hb])
    rw [List.flatMap_cons, List.length_append, List.length_cons, Nat.add_mul]; omega
theorem elB_len {l h : Int} {vs : D} (hl : nI l) (hh : nI h) (hv : itsOK vs) {ts : List Nat} (ht : ∀ t ∈ ts, t < vs.len) (hn : ts.length ≤ 1000) : (elB l h vs ts).length ≤ 75100 := by
  have h1 := itT_size hl hh
  have h2 : msB.size = 9 := rfl
  have h3 := flat_len (l := ts) (f := fun t => bl (tgT vs t)) (k := 75) fun t h => by rw [bl_len]; exact tgT_size hv (ht t h)
  unfold elB
  rw [List.length_append, bl_len, ba_size]; omega
theorem elB_step (l h : Int) (vs : D) (ts : List Nat) (t : Nat) : elB l h vs ts ++ bl (tgT vs t) = elB l h vs (ts ++ [t]) := by
  unfold elB
  rw [List.flatMap_append, List.append_assoc, List.flatMap_cons, List.flatMap_nil, List.append_nil]
theorem elB_pos (l h : Int) (vs : D) (ts : List Nat) : 0 < (elB l h vs ts).length := by
  have h2 : msB.size = 9 := rfl
  unfold elB
  rw [List.length_append, bl_len, ba_size]; omega
noncomputable def tgsS : List Dat → Option Eff := fun ds => match ds with
  | [.i l, .i h, .d vs] => some { val := .one (.sc (.osl 3 0 (.lit 0) (.sym (tgL vs vs.len).length))), vc := [vs.len ≤ 1000], nw := [(0, .orow 3 (iD (tgL vs vs.len)))] }
  | _ => none
noncomputable def tgsC : Con := conS [.agg [.c (.int .i64), .c (.int .i64), .c (.rows 75)]] tgsS
theorem tgs_ok : ConOK Tryd.prog 65 tgsC := by
  refine fn_obS tt_ok mixed Tryd.func65 rfl (fun _ _ => by kernel_rfl) (A := fun ds => ⟨fun _ => Cons.of [(34, empC)], fun k => match k, ds with | 3, [.i l, .i h, .d vs] => some { ι := Nat, pre := fun _ i => i ≤ vs.len, μ := fun i => vs.len - i, st := fun s i => famR s [(9, .one (.sc (.int .i64 (.sym ((i : Nat)))))), (3, .one (.sc (.osl 3 (s.nx - 1) (.lit 0) (.sym (tgL vs i).length))))] [1, 2, 7, 8] [(s.nx - 1, .orow 3 (iD (tgL vs i)))] [1] } | _, _ => none, fun _ => none⟩) (fun _ _ => (cons_cons emp_ok cons_nil)) (by kernel_rfl) ?_
  intro ds
  unfold tgsS
  split
  · rename_i l h vs
    refine kmp (q := vs.len ≤ (1000 : Nat) →
 (∃ (i : Nat),
 i.le vs.len ∧
 (0 : Int) = (↑i : Int) ∧
 (tgL vs i).length = (0 : Nat) ∧
 vs.rows = vs.rows ∧
 (↑vs.len : Int) = (↑vs.len : Int) ∧ List.map (fun (t : Nat) => [D.i (↑t : Int)]) (tgL vs i) = [] ∧ l = l ∧ h = h ∧ vs.rows = vs.rows) ∧
 ∀ (i : Nat),
 i.le vs.len →
 (decide ((↑i : Int) < (↑vs.len : Int)) = true →
 ((0 : Int) ≤ (↑i : Int) ∧ (↑i : Int) < (↑vs.len : Int)) ∧
 ((!decide ((vs.el (↑i : Int).toNat (0 : Nat)).toI > (vs.el (↑i : Int).toNat ((0 : Nat) + (1 : Nat))).toI)) = true →
 (tgL vs i).length = (iD (tgL vs i)).len ∧
 ((tgL vs i).length + ((D.l [[D.i (↑i : Int)]]).sub (0 : Nat) ((0 : Nat) + (1 : Nat))).len) * (8 : Nat) ≤ (140737488355328 : Nat) ∧
 (0 : Nat) + (1 : Nat) ≤ (D.l [[D.i (↑i : Int)]]).len ∧
 ∃ (j : Nat),
 j.le vs.len ∧
 vs.len - j < vs.len - i ∧
 IntKind.i64.wrap ((↑i : Int) + (1 : Int)) = (↑j : Int) ∧
 (tgL vs i).length + ((D.l [[D.i (↑i : Int)]]).sub (0 : Nat) ((0 : Nat) + (1 : Nat))).len = (tgL vs j).length ∧
 vs.rows = vs.rows ∧
 (↑vs.len : Int) = (↑vs.len : Int) ∧
 List.map (fun (t : Nat) => [D.i (↑t : Int)]) (tgL vs i) ++
 List.drop (0 : Nat) (List.take ((0 : Nat) + (1 : Nat)) [[D.i (↑i : Int)]]) =
 List.map (fun (t : Nat) => [D.i (↑t : Int)]) (tgL vs j) ∧
 l = l ∧ h = h ∧ vs.rows = vs.rows) ∧
 ((!decide ((vs.el (↑i : Int).toNat (0 : Nat)).toI > (vs.el (↑i : Int).toNat ((0 : Nat) + (1 : Nat))).toI)) = false →
 ∃ (j : Nat),
 j.le vs.len ∧
 vs.len - j < vs.len - i ∧
 IntKind.i64.wrap ((↑i : Int) + (1 : Int)) = (↑j : Int) ∧
 (tgL vs i).length = (tgL vs j).length ∧
 vs.rows = vs.rows ∧
 (↑vs.len : Int) = (↑vs.len : Int) ∧
 List.map (fun (t : Nat) => [D.i (↑t : Int)]) (tgL vs i) = List.map (fun (t : Nat) => [D.i (↑t : Int)]) (tgL vs j) ∧
 l = l ∧ h = h ∧ vs.rows = vs.rows)) ∧
 (decide ((↑i : Int) < (↑vs.len : Int)) = false →
 (tgL vs i).length = (tgL vs vs.len).length ∧
 List.map (fun (t : Nat) => [D.i (↑t : Int)]) (tgL vs i) = List.map (fun (t : Nat) => [D.i (↑t : Int)]) (tgL vs vs.len))) (by kernel_rfl) ?_
    intro hd
    refine ⟨⟨0, Nat.zero_le _, rfl, rfl, rfl, rfl, rfl, rfl, rfl, rfl⟩, fun i hi => ⟨fun hc => ?_, fun hc => ?_⟩⟩
    · have hc : i < vs.len := by simpa using hc
      have ei : ((i : Nat) : Int).toNat = i := rfl
      have e1 : IntKind.i64.wrap ((i : Int) + 1) = ((i + 1 : Nat) : Int) := by rw [IntWalk.i64_in _ (by omega)]; omega
      have hl := tgL_len vs i
      rw [ei]
      refine ⟨⟨by omega, by omega⟩, fun h => ?_, fun h => ?_⟩
      · have h : ¬ (vs.el i 0).toI > (vs.el i 1).toI := by simpa using h
        have et : tgL vs (i + 1) = tgL vs i ++ [i] := by rw [tgL, if_neg h]
        refine ⟨(iD_len _).symm, ?_, Nat.le_refl _, i + 1, hc, by omega, e1, ?_, rfl, rfl, ?_, rfl, rfl, rfl⟩
        · show (_ + 1) * 8 ≤ _
          omega
        · rw [et, List.length_append]; rfl
        · rw [et, List.map_append]; rfl
      · have h : (vs.el i 0).toI > (vs.el i 1).toI := by simpa using h
        have et : tgL vs (i + 1) = tgL vs i := by rw [tgL, if_pos h]
        exact ⟨i + 1, hc, by omega, e1, by rw [et], rfl, rfl, by rw [et], rfl, rfl, rfl⟩
    · have hi : i ≤ vs.len := hi
      have hc : ¬ i < vs.len := by simpa using hc
      obtain rfl : i = vs.len := by omega
      exact ⟨rfl, rfl⟩
  · trivial
noncomputable def elmS : FSpec := fun ds _ => match ds with
  | [.i l, .i h, .d vs] => some { val := .one (.sc (.raw (.string (elT l h vs)))), vc := [nI l, nI h, itsOK vs] }
  | _ => none
noncomputable def elmC : Con := con [.agg [.c (.int .i64), .c (.int .i64), .c (.rows 75)]] elmS
theorem elm_ok : ConOK Tryd.prog 41 elmC := by
  refine fn_ob tt_ok mixed Tryd.func41 rfl (fun _ _ => by kernel_rfl) (A := fun ds => ⟨fun _ => Cons.of [(35, itC), (15, pitC), (65, tgsC), (30, bwC), (32, bsC)], fun k => match k, ds with | 4, [.i l, .i h, .d vs] => some { ι := Nat, pre := fun _ i => i ≤ (tgL vs vs.len).length, μ := fun i => (tgL vs vs.len).length - i, st := fun s i => famR s [(14, .one (.sc (.int .i64 (.sym ((i : Nat))))))] [1, 2, 3, 12, 13] [(idOf s 3, .own 124 ([.c (.ptr (idOf s 3) (.lit 0)), .c (.osl 5 (s.nx - 1) (.lit 0) (.sym (elB l h vs ((tgL vs vs.len).take i)).length))])), (s.nx - 1, .orow 5 (bytD (elB l h vs ((tgL vs vs.len).take i))))] [1, 12] } | _, _ => none, fun _ => none⟩) (fun _ _ => (cons_cons it_ok (cons_cons pit_ok (cons_cons tgs_ok (cons_cons bw_ok (cons_cons bs_ok cons_nil)))))) (by kernel_rfl) ?_
  intro ds fr
  unfold elmS
  split
  · rename_i l h vs
    refine kmp (q := nI l →
 nI h →
 itsOK vs →
 nI l ∧
 nI h ∧
 (↑((itT l h).size +
 (ByteArray.mk #[(32 : UInt8), (109 : UInt8), (101 : UInt8), (115 : UInt8), (115 : UInt8), (97 : UInt8), (103 : UInt8), (101 : UInt8),
 (115 : UInt8)]).size) :
 Int) ≤
 IntKind.i64.max ∧
 (D.l []).len +
 (itT l h ++
 (ByteArray.mk #[(32 : UInt8), (109 : UInt8), (101 : UInt8), (115 : UInt8), (115 : UInt8), (97 : UInt8), (103 : UInt8), (101 : UInt8),
 (115 : UInt8)])).size ≤
 (140737488355328 : Nat) ∧
 vs.len ≤ (1000 : Nat) ∧
 (∃ (i : Nat),
 i.le (tgL vs vs.len).length ∧
 (0 : Int) = (↑i : Int) ∧
 Value.string (ByteArray.mk #[]) = Value.string (ByteArray.mk #[]) ∧
 (tgL vs vs.len).length = (tgL vs vs.len).length ∧
 (↑(tgL vs vs.len).length : Int) = (↑(tgL vs vs.len).length : Int) ∧
 ((D.l []).app
 (bytD
 (itT l h ++
 (ByteArray.mk #[(32 : UInt8), (109 : UInt8), (101 : UInt8), (115 : UInt8), (115 : UInt8), (97 : UInt8), (103 : UInt8),
 (101 : UInt8), (115 : UInt8)])).data.toList)).len =
 (elB l h vs (List.take i (tgL vs vs.len))).length ∧
 [] ++
 List.map (fun (b : UInt8) => [D.i (↑b.toNat : Int)])
 (itT l h ++
 (ByteArray.mk #[(32 : UInt8), (109 : UInt8), (101 : UInt8), (115 : UInt8), (115 : UInt8), (97 : UInt8), (103 : UInt8),
 (101 : UInt8), (115 : UInt8)])).data.toList =
 List.map (fun (b : UInt8) => [D.i (↑b.toNat : Int)]) (elB l h vs (List.take i (tgL vs vs.len))) ∧
 l = l ∧
 h = h ∧
 vs.rows = vs.rows ∧
 List.map (fun (t : Nat) => [D.i (↑t : Int)]) (tgL vs vs.len) =
 List.map (fun (t : Nat) => [D.i (↑t : Int)]) (tgL vs vs.len)) ∧
 ∀ (i : Nat),
 i.le (tgL vs vs.len).length →
 (decide ((↑i : Int) < (↑(tgL vs vs.len).length : Int)) = true →
 ((0 : Int) ≤ (↑i : Int) ∧ (↑i : Int) < (↑(tgL vs vs.len).length : Int)) ∧
 (↑i : Int).toNat < (iD (tgL vs vs.len)).len ∧
 nI ((iD (tgL vs vs.len)).el (↑i : Int).toNat (0 : Nat)).toI ∧
 (↑((ByteArray.mk #[(44 : UInt8), (32 : UInt8), (116 : UInt8), (97 : UInt8), (103 : UInt8), (32 : UInt8)]).size +
 (itW ((iD (tgL vs vs.len)).el (↑i : Int).toNat (0 : Nat)).toI).size) :
 Int) ≤
 IntKind.i64.max ∧
 (↑(((ByteArray.mk #[(44 : UInt8), (32 : UInt8), (116 : UInt8), (97 : UInt8), (103 : UInt8), (32 : UInt8)]) ++
 itW ((iD (tgL vs vs.len)).el (↑i : Int).toNat (0 : Nat)).toI).size +
 (ByteArray.mk #[(58 : UInt8), (32 : UInt8)]).size) :
 Int) ≤
 IntKind.i64.max ∧
 ((0 : Int) ≤ ((iD (tgL vs vs.len)).el (↑i : Int).toNat (0 : Nat)).toI ∧
 ((iD (tgL vs vs.len)).el (↑i : Int).toNat (0 : Nat)).toI < (↑vs.len : Int)) ∧
 nI (vs.el ((iD (tgL vs vs.len)).el (↑i : Int).toNat (0 : Nat)).toI.toNat (0 : Nat)).toI ∧
 nI (vs.el ((iD (tgL vs vs.len)).el (↑i : Int).toNat (0 : Nat)).toI.toNat ((0 : Nat) + (1 : Nat))).toI ∧
 (↑(((ByteArray.mk #[(44 : UInt8), (32 : UInt8), (116 : UInt8), (97 : UInt8), (103 : UInt8), (32 : UInt8)]) ++
 itW ((iD (tgL vs vs.len)).el (↑i : Int).toNat (0 : Nat)).toI ++
 (ByteArray.mk #[(58 : UInt8), (32 : UInt8)])).size +
 (itT (vs.el ((iD (tgL vs vs.len)).el (↑i : Int).toNat (0 : Nat)).toI.toNat (0 : Nat)).toI
 (vs.el ((iD (tgL vs vs.len)).el (↑i : Int).toNat (0 : Nat)).toI.toNat
 ((0 : Nat) + (1 : Nat))).toI).size) :
 Int) ≤
 IntKind.i64.max ∧
 (elB l h vs (List.take i (tgL vs vs.len))).length = (bytD (elB l h vs (List.take i (tgL vs vs.len)))).len ∧
 (0 : Nat) < (bytD (elB l h vs (List.take i (tgL vs vs.len)))).len ∧
 (bytD (elB l h vs (List.take i (tgL vs vs.len)))).len +
 ((ByteArray.mk #[(44 : UInt8), (32 : UInt8), (116 : UInt8), (97 : UInt8), (103 : UInt8), (32 : UInt8)]) ++
 itW ((iD (tgL vs vs.len)).el (↑i : Int).toNat (0 : Nat)).toI ++
 (ByteArray.mk #[(58 : UInt8), (32 : UInt8)]) ++
 itT (vs.el ((iD (tgL vs vs.len)).el (↑i : Int).toNat (0 : Nat)).toI.toNat (0 : Nat)).toI
 (vs.el ((iD (tgL vs vs.len)).el (↑i : Int).toNat (0 : Nat)).toI.toNat
 ((0 : Nat) + (1 : Nat))).toI).size ≤
 (140737488355328 : Nat) ∧
 ∃ (j : Nat),
 j.le (tgL vs vs.len).length ∧
 (tgL vs vs.len).length - j < (tgL vs vs.len).length - i ∧
 IntKind.i64.wrap ((↑i : Int) + (1 : Int)) = (↑j : Int) ∧
 Value.string (ByteArray.mk #[]) = Value.string (ByteArray.mk #[]) ∧
 (tgL vs vs.len).length = (tgL vs vs.len).length ∧
 (↑(tgL vs vs.len).length : Int) = (↑(tgL vs vs.len).length : Int) ∧
 ((bytD (elB l h vs (List.take i (tgL vs vs.len)))).app
 (bytD
 ((ByteArray.mk #[(44 : UInt8), (32 : UInt8), (116 : UInt8), (97 : UInt8),
 (103 : UInt8), (32 : UInt8)]) ++
 itW ((iD (tgL vs vs.len)).el (↑i : Int).toNat (0 : Nat)).toI ++
 (ByteArray.mk #[(58 : UInt8), (32 : UInt8)]) ++
 itT
 (vs.el ((iD (tgL vs vs.len)).el (↑i : Int).toNat (0 : Nat)).toI.toNat
 (0 : Nat)).toI
 (vs.el ((iD (tgL vs vs.len)).el (↑i : Int).toNat (0 : Nat)).toI.toNat
 ((0 : Nat) + (1 : Nat))).toI).data.toList)).len =
 (elB l h vs (List.take j (tgL vs vs.len))).length ∧
 List.map (fun (b : UInt8) => [D.i (↑b.toNat : Int)])
 (elB l h vs (List.take i (tgL vs vs.len))) ++
 List.map (fun (b : UInt8) => [D.i (↑b.toNat : Int)])
 ((ByteArray.mk #[(44 : UInt8), (32 : UInt8), (116 : UInt8), (97 : UInt8),
 (103 : UInt8), (32 : UInt8)]) ++
 itW ((iD (tgL vs vs.len)).el (↑i : Int).toNat (0 : Nat)).toI ++
 (ByteArray.mk #[(58 : UInt8), (32 : UInt8)]) ++
 itT
 (vs.el ((iD (tgL vs vs.len)).el (↑i : Int).toNat (0 : Nat)).toI.toNat
 (0 : Nat)).toI
 (vs.el ((iD (tgL vs vs.len)).el (↑i : Int).toNat (0 : Nat)).toI.toNat
 ((0 : Nat) + (1 : Nat))).toI).data.toList =
 List.map (fun (b : UInt8) => [D.i (↑b.toNat : Int)])
 (elB l h vs (List.take j (tgL vs vs.len))) ∧
 l = l ∧
 h = h ∧
 vs.rows = vs.rows ∧
 List.map (fun (t : Nat) => [D.i (↑t : Int)]) (tgL vs vs.len) =
 List.map (fun (t : Nat) => [D.i (↑t : Int)]) (tgL vs vs.len)) ∧
 (decide ((↑i : Int) < (↑(tgL vs vs.len).length : Int)) = false →
 (elB l h vs (List.take i (tgL vs vs.len))).length = (bytD (elB l h vs (List.take i (tgL vs vs.len)))).len ∧
 (0 : Nat) < (bytD (elB l h vs (List.take i (tgL vs vs.len)))).len ∧
 (0 : Nat) < (bytD (elB l h vs (List.take i (tgL vs vs.len)))).len ∧
 (bytD (elB l h vs (List.take i (tgL vs vs.len)))).len ≤ (140737488355328 : Nat) ∧
 (∀ (i_1 : Nat),
 i_1 < (bytD (elB l h vs (List.take i (tgL vs vs.len)))).len →
 (0 : Int) ≤ ((bytD (elB l h vs (List.take i (tgL vs vs.len)))).el i_1 (0 : Nat)).toI ∧
 ((bytD (elB l h vs (List.take i (tgL vs vs.len)))).el i_1 (0 : Nat)).toI < (256 : Int)) ∧
 Value.string (bytB (bytD (elB l h vs (List.take i (tgL vs vs.len))))) = Value.string (elT l h vs))) (by kernel_rfl) ?_
    intro hl hh hd
    have hs := itT_size hl hh
    have hT := tgL_len vs vs.len
    have hd1 := hd.1
    have hm : ∀ k, ∀ t ∈ (tgL vs vs.len).take k, t < vs.len := fun k t h => tgL_mem (List.mem_of_mem_take h)
    have hn : ∀ k, ((tgL vs vs.len).take k).length ≤ 1000 := fun k => by rw [List.length_take]; omega
    have s9 : msB.size = 9 := rfl
    have s6 : taB.size = 6 := rfl
    have s2 : coB.size = 2 := rfl
    refine ⟨hl, hh, mx (by show (itT l h).size + msB.size ≤ 1000; omega), ?_, hd1, ⟨0, Nat.zero_le _, rfl, rfl, rfl, rfl, ?_, ?_, rfl, rfl, rfl, rfl⟩, fun i hi => ⟨fun hc => ?_, fun hc => ?_⟩⟩
    · show 0 + (itT l h ++ msB).size ≤ _
      rw [ba_size]; omega
    · show ((D.l []).app (bytD (bl (itT l h ++ msB)))).len = (elB l h vs []).length
      unfold elB
      rw [List.flatMap_nil, List.append_nil]
      exact bytD_len _
    · show (bl (itT l h ++ msB)).map _ = (elB l h vs []).map _
      unfold elB
      rw [List.flatMap_nil, List.append_nil]
    · have hc : i < (tgL vs vs.len).length := by simpa using hc
      have ei : ((i : Nat) : Int).toNat = i := rfl
      rw [ei, iD_el hc]
      have ht := tgL_mem (List.getElem_mem hc)
      have e1 : IntKind.i64.wrap ((i : Int) + 1) = ((i + 1 : Nat) : Int) := by rw [IntWalk.i64_in _ (by omega)]; omega
      have ek : (tgL vs vs.len).take (i + 1) = (tgL vs vs.len).take i ++ [(tgL vs vs.len)[i]] := by rw [List.take_add_one, List.getElem?_eq_getElem hc]; rfl
      generalize (tgL vs vs.len)[i] = t at ht ek ⊢
      have et : ((D.i (t : Int)).toI).toNat = t := rfl
      rw [et]
      have htn : nI (t : Int) := ⟨by omega, by omega⟩
      have hz := itZ htn
      obtain ⟨q1, q2⟩ := hd.2 t ht
      have hq := itT_size q1 q2
      have hL := elB_len hl hh hd (hm i) (hn i)
      have hg := tgT_size hd ht
      refine ⟨⟨by omega, by omega⟩, by rw [iD_len]; exact hc, htn, mx (by show taB.size + (itW (t : Int)).size ≤ 1000; omega), mx (by show (taB ++ itW (t : Int)).size + coB.size ≤ 1000; rw [ba_size]; omega), ⟨(by show 0 ≤ (t : Int); omega), (by show (t : Int) < _; omega)⟩, q1, q2, mx ?_, (bytD_len _).symm, by rw [bytD_len]; exact elB_pos _ _ _ _, ?_, i + 1, hc, by omega, e1, rfl, rfl, rfl, ?_, ?_, rfl, rfl, rfl, rfl⟩
      · show ((taB ++ itW (t : Int)) ++ coB).size + (itT (vs.el t 0).toI (vs.el t 1).toI).size ≤ 1000
        rw [ba_size, ba_size]; omega
      · rw [bytD_len]
        show _ + (tgT vs t).size ≤ _
        omega
      · show ((bytD _).app (bytD (bl (tgT vs t)))).len = _
        rw [bytD_app, bytD_len, elB_step, ek]
      · rw [ek, ← elB_step, List.map_append]; rfl
    · have hi : i ≤ (tgL vs vs.len).length := hi
      have hc : ¬ i < (tgL vs vs.len).length := by simpa using hc
      have hL := elB_len hl hh hd (hm i) (hn i)
      have hp := elB_pos l h vs ((tgL vs vs.len).take i)
      rw [bytD_len]
      refine ⟨rfl, hp, hp, by omega, fun k hk => bytD_ok _ k (by rw [bytD_len]; exact hk), ?_⟩
      rw [bytB_bytD, List.take_of_length_le (by omega)]; rfl
  · trivial
end Go.Proofs.YtomodncooiddaaaDoor.Sx.Z
