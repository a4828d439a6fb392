/-
  A whole result, line by line.
-/
import Derived.Test.YtomodncooiddaaaDoorRed
namespace Go.Proofs.YtomodncooiddaaaDoor.Sx.Z
open Go.RowKit
def lnS (ps : List ByteArray) : List UInt8 := catB ps ++ [10]
def spB : ByteArray := ⟨#[115, 116, 101, 112, 115, 32]⟩
def prB : ByteArray := ⟨#[112, 114, 111, 99, 101, 115, 115, 32]⟩
def noB : ByteArray := ⟨#[110, 111, 100, 101, 32]⟩
def chnB : ByteArray := ⟨#[99, 104, 97, 110, 110, 101, 108, 32]⟩
def alsT (n : Int) : ByteArray := if n = 0 then ⟨#[110, 111, 32, 97, 108, 97, 114, 109]⟩ else itW n ++ ⟨#[32, 97, 108, 97, 114, 109, 115]⟩
def nodB (a : D) (n : Nat) : List UInt8 := lnS [noB, itW (n : Int), coB, stT (a.el n 0).toB (a.el n 1)]
def hdB (p : Nat) : List UInt8 := lnS [prB, itW (p : Int)]
def proB (ta : D) (p : Nat) : List UInt8 := hdB p ++ (List.range (ta.el p 0).len).flatMap (nodB (ta.el p 0))
def chaB (le : D) (c : Nat) : List UInt8 := lnS [chnB, itW (c : Int), coB, elT (le.el c 0).toI (le.el c 1).toI (le.el c 2)]
def alaB (la : D) (i : Nat) : List UInt8 := lnS [alT (la.el i 0).toI (la.el i 1).toI (la.el i 2).toI]
def t0B (st : Int) : List UInt8 := lnS [spB, itW st]
def t1B (st : Int) (ta : D) (p : Nat) : List UInt8 := t0B st ++ (List.range p).flatMap (proB ta)
def t2B (st : Int) (ta : D) (p n : Nat) : List UInt8 := (t1B st ta p ++ hdB p) ++ (List.range n).flatMap (nodB (ta.el p 0))
def t3B (st : Int) (ta le : D) (c : Nat) : List UInt8 := t1B st ta ta.len ++ (List.range c).flatMap (chaB le)
def t4B (st : Int) (ta le la : D) (i : Nat) : List UInt8 := t3B st ta le le.len ++ (List.range i).flatMap (alaB la)
def teB (st : Int) (ta le la : D) : List UInt8 := t4B st ta le la la.len ++ lnS [alsT (la.len : Int)]
def teT (st : Int) (ta le la : D) : ByteArray := mkB (teB st ta le la)
structure teOK (st : Int) (ta le la : D) : Prop where
  st : nI st
  at1 : ta.len ≤ 1000
  at2 : ∀ p, p < ta.len → (ta.el p 0).len ≤ 1000 ∧ ∀ n, n < (ta.el p 0).len → itsOK ((ta.el p 0).el n 1)
  el1 : le.len ≤ 1000
  el2 : ∀ c, c < le.len → nI (le.el c 0).toI ∧ nI (le.el c 1).toI ∧ itsOK (le.el c 2)
  al1 : la.len ≤ 1000
  al2 : ∀ i, i < la.len → nI (la.el i 0).toI ∧ nI (la.el i 1).toI ∧ nI (la.el i 2).toI
theorem catB_len (ps : List ByteArray) : (catB ps).length = (ps.map (·.size)).sum := by
  induction ps with
  | nil => rfl
  | cons s l ih => rw [catB, List.length_append, ih, List.map_cons, List.sum_cons, Array.length_toList]; rfl
theorem lnS_len (ps : List ByteArray) : (lnS ps).length = (ps.map (·.size)).sum + 1 := by
  unfold lnS
  rw [List.length_append, catB_len]; rfl
theorem ap0 {B C : List UInt8} (h : B = C) : ((D.l []).app (bytD B)).len = C.length := by
  subst h; exact bytD_len _
theorem ap1 {A B C : List UInt8} (h : A ++ B = C) : ((bytD A).app (bytD B)).len = C.length := by
  subst h; rw [bytD_app, bytD_len]
theorem ap2 {A B C : List UInt8} (h : A ++ B = C) : (A.map fun b => [D.i (b.toNat : Int)]) ++ (B.map fun b => [D.i (b.toNat : Int)]) = C.map fun b => [D.i (b.toNat : Int)] := by
  subst h; rw [List.map_append]
theorem stT_size {no : Bool} {d : D} (h : itsOK d) : (stT no d).size ≤ 48000 := by
  unfold stT
  split
  · decide
  · split
    · decide
    · exact st_join h
theorem lnZ1 (a : ByteArray) : (lnS [a]).length = a.size + 1 := by rw [lnS_len]; rfl
theorem lnZ2 (a b : ByteArray) : (lnS [a, b]).length = a.size + b.size + 1 := by rw [lnS_len]; simp only [List.map_cons, List.map_nil, List.sum_cons, List.sum_nil]; omega
theorem lnZ4 (a b c d : ByteArray) : (lnS [a, b, c, d]).length = a.size + b.size + c.size + d.size + 1 := by rw [lnS_len]; simp only [List.map_cons, List.map_nil, List.sum_cons, List.sum_nil]; omega
theorem nN {i : Nat} (h : i ≤ 1000000) : nI (i : Int) := ⟨by omega, by omega⟩
theorem sz_sp : spB.size = 6 := rfl
theorem sz_pr : prB.size = 8 := rfl
theorem sz_no : noB.size = 5 := rfl
theorem sz_ch : chnB.size = 8 := rfl
theorem sz_co : coB.size = 2 := rfl
theorem hdB_len {p : Nat} (h : p ≤ 1000) : (hdB p).length ≤ 40 := by
  have := itZ (nN (i := p) (by omega))
  unfold hdB; rw [lnZ2, sz_pr]; omega
theorem t0B_len {st : Int} (h : nI st) : (t0B st).length ≤ 40 := by
  have := itZ h
  unfold t0B; rw [lnZ2, sz_sp]; omega
theorem nodB_len {a : D} {n : Nat} (hn : n ≤ 1000) (h : itsOK (a.el n 1)) : (nodB a n).length ≤ 48100 := by
  have := itZ (nN (i := n) (by omega))
  have := stT_size (no := (a.el n 0).toB) h
  unfold nodB; rw [lnZ4, sz_no, sz_co]; omega
theorem range_mem {n i : Nat} (h : i ∈ List.range n) : i < n := List.mem_range.1 h
theorem elT_size {l h : Int} {vs : D} (hl : nI l) (hh : nI h) (hv : itsOK vs) : (elT l h vs).size ≤ 75100 := by
  have hb := elB_len hl hh hv (ts := tgL vs vs.len) (fun t h => tgL_mem h) (by have := tgL_len vs vs.len; have := hv.1; omega)
  have : (elT l h vs).size = (elB l h vs (tgL vs vs.len)).length := by unfold elT mkB; rfl
  omega
theorem chaB_len {le : D} {c : Nat} (hc : c ≤ 1000) (h : nI (le.el c 0).toI ∧ nI (le.el c 1).toI ∧ itsOK (le.el c 2)) : (chaB le c).length ≤ 75200 := by
  have := itZ (nN (i := c) (by omega))
  have := elT_size h.1 h.2.1 h.2.2
  unfold chaB; rw [lnZ4, sz_ch, sz_co]; omega
theorem alT_size {p e k : Int} (hp : nI p) (he : nI e) : (alT p e k).size ≤ 80 := by
  have := itZ hp
  have := itZ he
  have := kdW_size k
  have h4 : apB.size = 12 := rfl
  have h5 : aeB.size = 6 := rfl
  unfold alT
  rw [ba_size, ba_size, ba_size, ba_size]; omega
theorem alaB_len {la : D} {i : Nat} (h : nI (la.el i 0).toI ∧ nI (la.el i 1).toI ∧ nI (la.el i 2).toI) : (alaB la i).length ≤ 100 := by
  have := alT_size (k := (la.el i 2).toI) h.1 h.2.1
  unfold alaB; rw [lnZ1]; omega
theorem alsT_size {n : Int} (h : nI n) : (alsT n).size ≤ 40 := by
  have := itZ h
  unfold alsT
  split
  · decide
  · rw [ba_size]
    show _ + 7 ≤ _
    omega
theorem proB_len {ta : D} {p : Nat} (hp : p ≤ 1000) (h : (ta.el p 0).len ≤ 1000 ∧ ∀ n, n < (ta.el p 0).len → itsOK ((ta.el p 0).el n 1)) {n : Nat} (hn : n ≤ (ta.el p 0).len) : (hdB p).length + ((List.range n).flatMap (nodB (ta.el p 0))).length ≤ 48200040 := by
  have h1 := hdB_len hp
  have h2 := flat_len (l := List.range n) (f := nodB (ta.el p 0)) (k := 48100) fun i hi => by
    have := range_mem hi
    exact nodB_len (by omega) (h.2 i (by omega))
  rw [List.length_range] at h2; omega
theorem t1B_len {st : Int} {ta le la : D} (h : teOK st ta le la) {p : Nat} (hp : p ≤ ta.len) : (t1B st ta p).length ≤ 48200041000 := by
  have h1 := t0B_len h.st
  have h2 := flat_len (l := List.range p) (f := proB ta) (k := 48200040) fun i hi => by
    have := range_mem hi
    unfold proB
    rw [List.length_append]
    exact proB_len (by have := h.at1; omega) (h.at2 i (by omega)) (Nat.le_refl _)
  have := h.at1
  unfold t1B
  rw [List.length_append]
  rw [List.length_range] at h2; omega
theorem t2B_len {st : Int} {ta le la : D} (h : teOK st ta le la) {p n : Nat} (hp : p < ta.len) (hn : n ≤ (ta.el p 0).len) : (t2B st ta p n).length ≤ 48300000000 := by
  have h1 := t1B_len h (p := p) (by omega)
  have h2 := proB_len (by have := h.at1; omega) (h.at2 p hp) hn
  unfold t2B
  rw [List.length_append, List.length_append]; omega
theorem t3B_len {st : Int} {ta le la : D} (h : teOK st ta le la) {c : Nat} (hc : c ≤ le.len) : (t3B st ta le c).length ≤ 48400000000 := by
  have h1 := t1B_len h (Nat.le_refl _)
  have h2 := flat_len (l := List.range c) (f := chaB le) (k := 75200) fun i hi => by
    have := range_mem hi
    exact chaB_len (by have := h.el1; omega) (h.el2 i (by omega))
  have := h.el1
  unfold t3B
  rw [List.length_append]
  rw [List.length_range] at h2; omega
theorem t4B_len {st : Int} {ta le la : D} (h : teOK st ta le la) {c : Nat} (hc : c ≤ la.len) : (t4B st ta le la c).length ≤ 48500000000 := by
  have h1 := t3B_len h (Nat.le_refl _)
  have h2 := flat_len (l := List.range c) (f := alaB la) (k := 100) fun i hi => by
    have := range_mem hi
    exact alaB_len (h.al2 i (by omega))
  have := h.al1
  unfold t4B
  rw [List.length_append]
  rw [List.length_range] at h2; omega
theorem flat_succ {α : Type} (f : Nat → List α) (n : Nat) : (List.range (n + 1)).flatMap f = (List.range n).flatMap f ++ f n := by
  rw [List.range_succ, List.flatMap_append, List.flatMap_cons, List.flatMap_nil, List.append_nil]
theorem t1B_succ (st : Int) (ta : D) (p : Nat) : t2B st ta p (ta.el p 0).len = t1B st ta (p + 1) := by
  unfold t2B t1B
  rw [flat_succ, proB, List.append_assoc, List.append_assoc]
theorem t2B_succ (st : Int) (ta : D) (p n : Nat) : t2B st ta p n ++ nodB (ta.el p 0) n = t2B st ta p (n + 1) := by
  unfold t2B
  rw [flat_succ, List.append_assoc]
theorem t2B_zero (st : Int) (ta : D) (p : Nat) : t1B st ta p ++ hdB p = t2B st ta p 0 := (List.append_nil _).symm
theorem t3B_succ (st : Int) (ta le : D) (n : Nat) : t3B st ta le n ++ chaB le n = t3B st ta le (n + 1) := by
  unfold t3B
  rw [flat_succ, List.append_assoc]
theorem t4B_succ (st : Int) (ta le la : D) (n : Nat) : t4B st ta le la n ++ alaB la n = t4B st ta le la (n + 1) := by
  unfold t4B
  rw [flat_succ, List.append_assoc]
theorem t0B_pos (st : Int) : 0 < (t0B st).length := by unfold t0B; rw [lnZ2]; omega
theorem t1B_pos (st : Int) (ta : D) (p : Nat) : 0 < (t1B st ta p).length := by have := t0B_pos st; unfold t1B; rw [List.length_append]; omega
theorem t2B_pos (st : Int) (ta : D) (p n : Nat) : 0 < (t2B st ta p n).length := by have := t1B_pos st ta p; unfold t2B; rw [List.length_append, List.length_append]; omega
theorem t3B_pos (st : Int) (ta le : D) (p : Nat) : 0 < (t3B st ta le p).length := by have := t1B_pos st ta ta.len; unfold t3B; rw [List.length_append]; omega
theorem t4B_pos (st : Int) (ta le la : D) (p : Nat) : 0 < (t4B st ta le la p).length := by have := t3B_pos st ta le le.len; unfold t4B; rw [List.length_append]; omega
theorem inc {i n : Nat} (h : i < n) (hn : n ≤ 1000) : IntKind.i64.wrap ((i : Int) + 1) = ((i + 1 : Nat) : Int) := by rw [IntWalk.i64_in _ (by omega)]; omega
noncomputable def txtS : FSpec := fun ds _ => match ds with
  | [.d ta, .d le, .d la, .i st] => some { val := .one (.sc (.raw (.string (teT st ta le la)))), vc := [teOK st ta le la] }
  | _ => none
noncomputable def txtC : Con := con [.agg [.c (.rows 97), .c (.rows 96), .c (.rows 72), .c (.int .i64)]] txtS
theorem txt_ok : ConOK Tryd.prog 20 txtC := by
  refine fn_ob tt_ok mixed Tryd.func20 rfl (fun _ _ => by kernel_rfl) (A := fun ds => ⟨fun _ => Cons.of [(35, itC), (17, palC), (42, alsC), (41, elmC), (40, sttC), (39, liC), (32, bsC)], fun k => match k, ds with | 4, [.d ta, .d le, .d la, .i st] => some { ι := Nat, pre := fun _ i => i ≤ ta.len, μ := fun i => ta.len - i, st := fun s i => famR s [(20, .one (.sc (.int .i64 (.sym ((i : Nat))))))] [1, 2, 3, 18, 19] [(idOf s 3, .own 124 ([.c (.ptr (idOf s 3) (.lit 0)), .c (.osl 5 (s.nx - 1) (.lit 0) (.sym (t1B st ta i).length))])), (s.nx - 1, .orow 5 (bytD (t1B st ta i)))] [1] } | 8, [.d ta, .d le, .d la, .i st] => some { ι := Nat, pre := fun s i => i ≤ (ta.el (slotN s 20) 0).len, μ := fun i => 1000 - i, st := fun s i => famR s [(31, .one (.sc (.int .i64 (.sym ((i : Nat))))))] [1, 2, 3, 18, 19, 20, 29, 30] [(idOf s 3, .own 124 ([.c (.ptr (idOf s 3) (.lit 0)), .c (.osl 5 (s.nx - 1) (.lit 0) (.sym (t2B st ta (slotN s 20) i).length))])), (s.nx - 1, .orow 5 (bytD (t2B st ta (slotN s 20) i)))] [1] } | 14, [.d ta, .d le, .d la, .i st] => some { ι := Nat, pre := fun _ i => i ≤ le.len, μ := fun i => le.len - i, st := fun s i => famR s [(47, .one (.sc (.int .i64 (.sym ((i : Nat))))))] [1, 2, 3, 45, 46] [(idOf s 3, .own 124 ([.c (.ptr (idOf s 3) (.lit 0)), .c (.osl 5 (s.nx - 1) (.lit 0) (.sym (t3B st ta le i).length))])), (s.nx - 1, .orow 5 (bytD (t3B st ta le i)))] [1] } | 19, [.d ta, .d le, .d la, .i st] => some { ι := Nat, pre := fun _ i => i ≤ la.len, μ := fun i => la.len - i, st := fun s i => famR s [(62, .one (.sc (.int .i64 (.sym ((i : Nat))))))] [1, 2, 3, 60, 61] [(idOf s 3, .own 124 ([.c (.ptr (idOf s 3) (.lit 0)), .c (.osl 5 (s.nx - 1) (.lit 0) (.sym (t4B st ta le la i).length))])), (s.nx - 1, .orow 5 (bytD (t4B st ta le la i)))] [1] } | _, _ => none, fun _ => none⟩) (fun _ _ => (cons_cons it_ok (cons_cons pal_ok (cons_cons als_ok (cons_cons elm_ok (cons_cons stt_ok (cons_cons li_ok (cons_cons bs_ok cons_nil)))))))) (by kernel_rfl) ?_
  intro ds fr
  unfold txtS
  split
  · rename_i ta le la st
    refine kmp (q := teOK st ta le la →
 nI st ∧
 (2 : Nat) = (D.l [[D.s (ByteArray.mk #[(115 : UInt8), (116 : UInt8), (101 : UInt8), (112 : UInt8), (115 : UInt8), (32 : UInt8)])], [D.s (itW st)]]).len ∧
 ((0 : Nat) < (D.l [[D.s (ByteArray.mk #[(115 : UInt8), (116 : UInt8), (101 : UInt8), (112 : UInt8), (115 : UInt8), (32 : UInt8)])], [D.s (itW st)]]).len ∧
 (D.l [[D.s (ByteArray.mk #[(115 : UInt8), (116 : UInt8), (101 : UInt8), (112 : UInt8), (115 : UInt8), (32 : UInt8)])], [D.s (itW st)]]).len ≤
 (1000000 : Nat)) ∧
 (D.l []).len +
 (lnB
 (D.l [[D.s (ByteArray.mk #[(115 : UInt8), (116 : UInt8), (101 : UInt8), (112 : UInt8), (115 : UInt8), (32 : UInt8)])], [D.s (itW st)]])).length ≤
 (140737488355328 : Nat) ∧
 (∃ (i : Nat),
 i.le ta.len ∧
 (0 : Int) = (↑i : Int) ∧
 Value.string (ByteArray.mk #[]) = Value.string (ByteArray.mk #[]) ∧
 ta.rows = ta.rows ∧
 (↑ta.len : Int) = (↑ta.len : Int) ∧
 ((D.l []).app
 (bytD
 (lnB
 (D.l
 [[D.s (ByteArray.mk #[(115 : UInt8), (116 : UInt8), (101 : UInt8), (112 : UInt8), (115 : UInt8), (32 : UInt8)])],
 [D.s (itW st)]])))).len =
 (t1B st ta i).length ∧
 [] ++
 List.map (fun (b : UInt8) => [D.i (↑b.toNat : Int)])
 (lnB
 (D.l
 [[D.s (ByteArray.mk #[(115 : UInt8), (116 : UInt8), (101 : UInt8), (112 : UInt8), (115 : UInt8), (32 : UInt8)])],
 [D.s (itW st)]])) =
 List.map (fun (b : UInt8) => [D.i (↑b.toNat : Int)]) (t1B st ta i) ∧
 ta.rows = ta.rows ∧ le.rows = le.rows ∧ la.rows = la.rows ∧ st = st) ∧
 ∀ (i : Nat),
 i.le ta.len →
 (decide ((↑i : Int) < (↑ta.len : Int)) = true →
 ((0 : Int) ≤ (↑i : Int) ∧ (↑i : Int) < (↑ta.len : Int)) ∧
 nI (↑i : Int) ∧
 (t1B st ta i).length = (bytD (t1B st ta i)).len ∧
 (0 : Nat) < (bytD (t1B st ta i)).len ∧
 (2 : Nat) =
 (D.l
 [[D.s
 (ByteArray.mk #[(112 : UInt8), (114 : UInt8), (111 : UInt8), (99 : UInt8), (101 : UInt8), (115 : UInt8), (115 : UInt8),
 (32 : UInt8)])],
 [D.s (itW (↑i : Int))]]).len ∧
 ((0 : Nat) <
 (D.l
 [[D.s
 (ByteArray.mk #[(112 : UInt8), (114 : UInt8), (111 : UInt8), (99 : UInt8), (101 : UInt8), (115 : UInt8), (115 : UInt8),
 (32 : UInt8)])],
 [D.s (itW (↑i : Int))]]).len ∧
 (D.l
 [[D.s
 (ByteArray.mk #[(112 : UInt8), (114 : UInt8), (111 : UInt8), (99 : UInt8), (101 : UInt8), (115 : UInt8), (115 : UInt8),
 (32 : UInt8)])],
 [D.s (itW (↑i : Int))]]).len ≤
 (1000000 : Nat)) ∧
 (bytD (t1B st ta i)).len +
 (lnB
 (D.l
 [[D.s
 (ByteArray.mk #[(112 : UInt8), (114 : UInt8), (111 : UInt8), (99 : UInt8), (101 : UInt8), (115 : UInt8), (115 : UInt8),
 (32 : UInt8)])],
 [D.s (itW (↑i : Int))]])).length ≤
 (140737488355328 : Nat) ∧
 (∃ (i_1 : Nat),
 i_1.le
 (ta.el
 (slotN
 {
 tm :=
 [((31 : Nat), SV.one (V1.sc (SC.int IntKind.i64 (SI.lit (0 : Int))))),
 ((30 : Nat),
 SV.one (V1.sc (SC.int IntKind.i64 (SI.sym (↑(ta.el (↑i : Int).toNat (0 : Nat)).len : Int))))),
 ((29 : Nat), SV.one (V1.sc (SC.rows ((93 : Nat)) (ta.el (↑i : Int).toNat (0 : Nat))))),
 ((28 : Nat), SV.tup []),
 ((27 : Nat), SV.one (V1.sc (SC.osl ((9 : Nat)) ((164 : Nat)) (SN.lit ((0 : Nat))) (SN.lit ((2 : Nat)))))),
 ((26 : Nat), SV.one (V1.sc (SC.raw (Value.string (itW (↑i : Int)))))),
 ((25 : Nat), SV.one (V1.sc (SC.int IntKind.i64 (SI.sym (↑i : Int))))),
 ((5 : Nat), SV.one (V1.sc (SC.rows ((93 : Nat)) (ta.el (↑i : Int).toNat (0 : Nat))))),
 ((4 : Nat), SV.one (V1.sc (SC.int IntKind.i64 (SI.sym (↑i : Int))))),
 ((24 : Nat), SV.one (V1.sc (SC.rows ((93 : Nat)) (ta.el (↑i : Int).toNat (0 : Nat))))),
 ((23 : Nat), SV.one (V1.sc (SC.fp ((97 : Nat)) ta (↑i : Int).toNat ((0 : Nat))))),
 ((22 : Nat), SV.one (V1.sc (SC.int IntKind.i64 (SI.sym (↑i : Int))))),
 ((21 : Nat), SV.one (V1.sc (SC.bool (SB.sym (decide ((↑i : Int) < (↑ta.len : Int))))))),
 ((20 : Nat), SV.one (V1.sc (SC.int IntKind.i64 (SI.sym (↑i : Int))))),
 ((1 : Nat), SV.one (V1.sc (SC.ptr ((4 : Nat)) (SO.lit ((0 : Nat)))))),
 ((2 : Nat), SV.one (V1.sc (SC.raw (Value.string (ByteArray.mk #[]))))),
 ((3 : Nat), SV.one (V1.sc (SC.ptr ((20 : Nat)) (SO.lit ((0 : Nat)))))),
 ((18 : Nat), SV.one (V1.sc (SC.rows ((97 : Nat)) ta))),
 ((19 : Nat), SV.one (V1.sc (SC.int IntKind.i64 (SI.sym (↑ta.len : Int)))))],
 hp :=
 [((20 : Nat),
 Ent.own ((124 : Nat))
 [Seg.c (SC.ptr ((20 : Nat)) (SO.lit ((0 : Nat)))),
 Seg.c
 (SC.osl ((5 : Nat)) ((172 : Nat)) (SN.lit ((0 : Nat)))
 (SN.sym
 ((bytD (t1B st ta i)).app
 (bytD
 (lnB
 (D.l
 [[D.s
 (ByteArray.mk #[(112 : UInt8), (114 : UInt8), (111 : UInt8), (99 : UInt8),
 (101 : UInt8), (115 : UInt8), (115 : UInt8), (32 : UInt8)])],
 [D.s (itW (↑i : Int))]])))).len))]),
 ((99 : Nat), Ent.gone),
 ((172 : Nat),
 Ent.orow ((5 : Nat))
 ((bytD (t1B st ta i)).app
 (bytD
 (lnB
 (D.l
 [[D.s
 (ByteArray.mk #[(112 : UInt8), (114 : UInt8), (111 : UInt8), (99 : UInt8), (101 : UInt8),
 (115 : UInt8), (115 : UInt8), (32 : UInt8)])],
 [D.s (itW (↑i : Int))]]))))),
 ((164 : Nat),
 Ent.orow ((9 : Nat))
 (D.l
 [[D.s
 (ByteArray.mk #[(112 : UInt8), (114 : UInt8), (111 : UInt8), (99 : UInt8), (101 : UInt8), (115 : UInt8),
 (115 : UInt8), (32 : UInt8)])],
 [D.s (itW (↑i : Int))]])),
 ((20 : Nat),
 Ent.own ((124 : Nat))
 [Seg.c (SC.ptr ((20 : Nat)) (SO.lit ((0 : Nat)))),
 Seg.c (SC.osl ((5 : Nat)) ((99 : Nat)) (SN.lit ((0 : Nat))) (SN.sym (t1B st ta i).length))]),
 ((99 : Nat), Ent.orow ((5 : Nat)) (bytD (t1B st ta i))),
 ((4 : Nat),
 Ent.own ((101 : Nat))
 [Seg.c (SC.rows ((97 : Nat)) ta), Seg.c (SC.rows ((96 : Nat)) le), Seg.c (SC.rows ((72 : Nat)) la),
 Seg.c (SC.int IntKind.i64 (SI.sym st))])],
 nx := (204 : Nat) }
 (20 : Nat))
 (0 : Nat)).len ∧
 (0 : Int) = (↑i_1 : Int) ∧
 Value.string (ByteArray.mk #[]) = Value.string (ByteArray.mk #[]) ∧
 ta.rows = ta.rows ∧
 (↑ta.len : Int) = (↑ta.len : Int) ∧
 (↑i : Int) = (↑i : Int) ∧
 (ta.el (↑i : Int).toNat (0 : Nat)).rows = (ta.el (↑i : Int).toNat (0 : Nat)).rows ∧
 (↑(ta.el (↑i : Int).toNat (0 : Nat)).len : Int) = (↑(ta.el (↑i : Int).toNat (0 : Nat)).len : Int) ∧
 ((bytD (t1B st ta i)).app
 (bytD
 (lnB
 (D.l
 [[D.s
 (ByteArray.mk #[(112 : UInt8), (114 : UInt8), (111 : UInt8), (99 : UInt8), (101 : UInt8),
 (115 : UInt8), (115 : UInt8), (32 : UInt8)])],
 [D.s (itW (↑i : Int))]])))).len =
 (t2B st ta i i_1).length ∧
 List.map (fun (b : UInt8) => [D.i (↑b.toNat : Int)]) (t1B st ta i) ++
 List.map (fun (b : UInt8) => [D.i (↑b.toNat : Int)])
 (lnB
 (D.l
 [[D.s
 (ByteArray.mk #[(112 : UInt8), (114 : UInt8), (111 : UInt8), (99 : UInt8), (101 : UInt8),
 (115 : UInt8), (115 : UInt8), (32 : UInt8)])],
 [D.s (itW (↑i : Int))]])) =
 List.map (fun (b : UInt8) => [D.i (↑b.toNat : Int)]) (t2B st ta i i_1) ∧
 ta.rows = ta.rows ∧ le.rows = le.rows ∧ la.rows = la.rows ∧ st = st) ∧
 ∀ (i_1 : Nat),
 i_1.le
 (ta.el
 (slotN
 {
 tm :=
 [((31 : Nat), SV.one (V1.sc (SC.int IntKind.i64 (SI.lit (0 : Int))))),
 ((30 : Nat),
 SV.one (V1.sc (SC.int IntKind.i64 (SI.sym (↑(ta.el (↑i : Int).toNat (0 : Nat)).len : Int))))),
 ((29 : Nat), SV.one (V1.sc (SC.rows ((93 : Nat)) (ta.el (↑i : Int).toNat (0 : Nat))))),
 ((28 : Nat), SV.tup []),
 ((27 : Nat), SV.one (V1.sc (SC.osl ((9 : Nat)) ((164 : Nat)) (SN.lit ((0 : Nat))) (SN.lit ((2 : Nat)))))),
 ((26 : Nat), SV.one (V1.sc (SC.raw (Value.string (itW (↑i : Int)))))),
 ((25 : Nat), SV.one (V1.sc (SC.int IntKind.i64 (SI.sym (↑i : Int))))),
 ((5 : Nat), SV.one (V1.sc (SC.rows ((93 : Nat)) (ta.el (↑i : Int).toNat (0 : Nat))))),
 ((4 : Nat), SV.one (V1.sc (SC.int IntKind.i64 (SI.sym (↑i : Int))))),
 ((24 : Nat), SV.one (V1.sc (SC.rows ((93 : Nat)) (ta.el (↑i : Int).toNat (0 : Nat))))),
 ((23 : Nat), SV.one (V1.sc (SC.fp ((97 : Nat)) ta (↑i : Int).toNat ((0 : Nat))))),
 ((22 : Nat), SV.one (V1.sc (SC.int IntKind.i64 (SI.sym (↑i : Int))))),
 ((21 : Nat), SV.one (V1.sc (SC.bool (SB.sym (decide ((↑i : Int) < (↑ta.len : Int))))))),
 ((20 : Nat), SV.one (V1.sc (SC.int IntKind.i64 (SI.sym (↑i : Int))))),
 ((1 : Nat), SV.one (V1.sc (SC.ptr ((4 : Nat)) (SO.lit ((0 : Nat)))))),
 ((2 : Nat), SV.one (V1.sc (SC.raw (Value.string (ByteArray.mk #[]))))),
 ((3 : Nat), SV.one (V1.sc (SC.ptr ((20 : Nat)) (SO.lit ((0 : Nat)))))),
 ((18 : Nat), SV.one (V1.sc (SC.rows ((97 : Nat)) ta))),
 ((19 : Nat), SV.one (V1.sc (SC.int IntKind.i64 (SI.sym (↑ta.len : Int)))))],
 hp :=
 [((20 : Nat),
 Ent.own ((124 : Nat))
 [Seg.c (SC.ptr ((20 : Nat)) (SO.lit ((0 : Nat)))),
 Seg.c
 (SC.osl ((5 : Nat)) ((172 : Nat)) (SN.lit ((0 : Nat)))
 (SN.sym
 ((bytD (t1B st ta i)).app
 (bytD
 (lnB
 (D.l
 [[D.s
 (ByteArray.mk #[(112 : UInt8), (114 : UInt8), (111 : UInt8), (99 : UInt8),
 (101 : UInt8), (115 : UInt8), (115 : UInt8), (32 : UInt8)])],
 [D.s (itW (↑i : Int))]])))).len))]),
 ((99 : Nat), Ent.gone),
 ((172 : Nat),
 Ent.orow ((5 : Nat))
 ((bytD (t1B st ta i)).app
 (bytD
 (lnB
 (D.l
 [[D.s
 (ByteArray.mk #[(112 : UInt8), (114 : UInt8), (111 : UInt8), (99 : UInt8), (101 : UInt8),
 (115 : UInt8), (115 : UInt8), (32 : UInt8)])],
 [D.s (itW (↑i : Int))]]))))),
 ((164 : Nat),
 Ent.orow ((9 : Nat))
 (D.l
 [[D.s
 (ByteArray.mk #[(112 : UInt8), (114 : UInt8), (111 : UInt8), (99 : UInt8), (101 : UInt8), (115 : UInt8),
 (115 : UInt8), (32 : UInt8)])],
 [D.s (itW (↑i : Int))]])),
 ((20 : Nat),
 Ent.own ((124 : Nat))
 [Seg.c (SC.ptr ((20 : Nat)) (SO.lit ((0 : Nat)))),
 Seg.c (SC.osl ((5 : Nat)) ((99 : Nat)) (SN.lit ((0 : Nat))) (SN.sym (t1B st ta i).length))]),
 ((99 : Nat), Ent.orow ((5 : Nat)) (bytD (t1B st ta i))),
 ((4 : Nat),
 Ent.own ((101 : Nat))
 [Seg.c (SC.rows ((97 : Nat)) ta), Seg.c (SC.rows ((96 : Nat)) le), Seg.c (SC.rows ((72 : Nat)) la),
 Seg.c (SC.int IntKind.i64 (SI.sym st))])],
 nx := (204 : Nat) }
 (20 : Nat))
 (0 : Nat)).len →
 (decide ((↑i_1 : Int) < (↑(ta.el (↑i : Int).toNat (0 : Nat)).len : Int)) = true →
 ((0 : Int) ≤ (↑i_1 : Int) ∧ (↑i_1 : Int) < (↑(ta.el (↑i : Int).toNat (0 : Nat)).len : Int)) ∧
 nI (↑i_1 : Int) ∧
 itsOK ((ta.el (↑i : Int).toNat (0 : Nat)).el (↑i_1 : Int).toNat ((0 : Nat) + (1 : Nat))) ∧
 (t2B st ta i i_1).length = (bytD (t2B st ta i i_1)).len ∧
 (0 : Nat) < (bytD (t2B st ta i i_1)).len ∧
 (4 : Nat) =
 (D.l
 [[D.s (ByteArray.mk #[(110 : UInt8), (111 : UInt8), (100 : UInt8), (101 : UInt8), (32 : UInt8)])],
 [D.s (itW (↑i_1 : Int))], [D.s (ByteArray.mk #[(58 : UInt8), (32 : UInt8)])],
 [D.s
 (stT ((ta.el (↑i : Int).toNat (0 : Nat)).el (↑i_1 : Int).toNat (0 : Nat)).toB
 ((ta.el (↑i : Int).toNat (0 : Nat)).el (↑i_1 : Int).toNat
 ((0 : Nat) + (1 : Nat))))]]).len ∧
 ((0 : Nat) <
 (D.l
 [[D.s
 (ByteArray.mk #[(110 : UInt8), (111 : UInt8), (100 : UInt8), (101 : UInt8), (32 : UInt8)])],
 [D.s (itW (↑i_1 : Int))], [D.s (ByteArray.mk #[(58 : UInt8), (32 : UInt8)])],
 [D.s
 (stT ((ta.el (↑i : Int).toNat (0 : Nat)).el (↑i_1 : Int).toNat (0 : Nat)).toB
 ((ta.el (↑i : Int).toNat (0 : Nat)).el (↑i_1 : Int).toNat
 ((0 : Nat) + (1 : Nat))))]]).len ∧
 (D.l
 [[D.s
 (ByteArray.mk #[(110 : UInt8), (111 : UInt8), (100 : UInt8), (101 : UInt8), (32 : UInt8)])],
 [D.s (itW (↑i_1 : Int))], [D.s (ByteArray.mk #[(58 : UInt8), (32 : UInt8)])],
 [D.s
 (stT ((ta.el (↑i : Int).toNat (0 : Nat)).el (↑i_1 : Int).toNat (0 : Nat)).toB
 ((ta.el (↑i : Int).toNat (0 : Nat)).el (↑i_1 : Int).toNat
 ((0 : Nat) + (1 : Nat))))]]).len ≤
 (1000000 : Nat)) ∧
 (bytD (t2B st ta i i_1)).len +
 (lnB
 (D.l
 [[D.s
 (ByteArray.mk #[(110 : UInt8), (111 : UInt8), (100 : UInt8), (101 : UInt8), (32 : UInt8)])],
 [D.s (itW (↑i_1 : Int))], [D.s (ByteArray.mk #[(58 : UInt8), (32 : UInt8)])],
 [D.s
 (stT ((ta.el (↑i : Int).toNat (0 : Nat)).el (↑i_1 : Int).toNat (0 : Nat)).toB
 ((ta.el (↑i : Int).toNat (0 : Nat)).el (↑i_1 : Int).toNat
 ((0 : Nat) + (1 : Nat))))]])).length ≤
 (140737488355328 : Nat) ∧
 ∃ (j : Nat),
 j.le
 (ta.el
 (slotN
 {
 tm :=
 [((31 : Nat), SV.one (V1.sc (SC.int IntKind.i64 (SI.lit (0 : Int))))),
 ((30 : Nat),
 SV.one
 (V1.sc
 (SC.int IntKind.i64
 (SI.sym (↑(ta.el (↑i : Int).toNat (0 : Nat)).len : Int))))),
 ((29 : Nat),
 SV.one (V1.sc (SC.rows ((93 : Nat)) (ta.el (↑i : Int).toNat (0 : Nat))))),
 ((28 : Nat), SV.tup []),
 ((27 : Nat),
 SV.one
 (V1.sc
 (SC.osl ((9 : Nat)) ((164 : Nat)) (SN.lit ((0 : Nat)))
 (SN.lit ((2 : Nat)))))),
 ((26 : Nat), SV.one (V1.sc (SC.raw (Value.string (itW (↑i : Int)))))),
 ((25 : Nat), SV.one (V1.sc (SC.int IntKind.i64 (SI.sym (↑i : Int))))),
 ((5 : Nat),
 SV.one (V1.sc (SC.rows ((93 : Nat)) (ta.el (↑i : Int).toNat (0 : Nat))))),
 ((4 : Nat), SV.one (V1.sc (SC.int IntKind.i64 (SI.sym (↑i : Int))))),
 ((24 : Nat),
 SV.one (V1.sc (SC.rows ((93 : Nat)) (ta.el (↑i : Int).toNat (0 : Nat))))),
 ((23 : Nat), SV.one (V1.sc (SC.fp ((97 : Nat)) ta (↑i : Int).toNat ((0 : Nat))))),
 ((22 : Nat), SV.one (V1.sc (SC.int IntKind.i64 (SI.sym (↑i : Int))))),
 ((21 : Nat),
 SV.one (V1.sc (SC.bool (SB.sym (decide ((↑i : Int) < (↑ta.len : Int))))))),
 ((20 : Nat), SV.one (V1.sc (SC.int IntKind.i64 (SI.sym (↑i : Int))))),
 ((1 : Nat), SV.one (V1.sc (SC.ptr ((4 : Nat)) (SO.lit ((0 : Nat)))))),
 ((2 : Nat), SV.one (V1.sc (SC.raw (Value.string (ByteArray.mk #[]))))),
 ((3 : Nat), SV.one (V1.sc (SC.ptr ((20 : Nat)) (SO.lit ((0 : Nat)))))),
 ((18 : Nat), SV.one (V1.sc (SC.rows ((97 : Nat)) ta))),
 ((19 : Nat), SV.one (V1.sc (SC.int IntKind.i64 (SI.sym (↑ta.len : Int)))))],
 hp :=
 [((20 : Nat),
 Ent.own ((124 : Nat))
 [Seg.c (SC.ptr ((20 : Nat)) (SO.lit ((0 : Nat)))),
 Seg.c
 (SC.osl ((5 : Nat)) ((172 : Nat)) (SN.lit ((0 : Nat)))
 (SN.sym
 ((bytD (t1B st ta i)).app
 (bytD
 (lnB
 (D.l
 [[D.s
 (ByteArray.mk #[(112 : UInt8), (114 : UInt8), (111 : UInt8),
 (99 : UInt8), (101 : UInt8), (115 : UInt8),
 (115 : UInt8), (32 : UInt8)])],
 [D.s (itW (↑i : Int))]])))).len))]),
 ((99 : Nat), Ent.gone),
 ((172 : Nat),
 Ent.orow ((5 : Nat))
 ((bytD (t1B st ta i)).app
 (bytD
 (lnB
 (D.l
 [[D.s
 (ByteArray.mk #[(112 : UInt8), (114 : UInt8), (111 : UInt8), (99 : UInt8),
 (101 : UInt8), (115 : UInt8), (115 : UInt8),
 (32 : UInt8)])],
 [D.s (itW (↑i : Int))]]))))),
 ((164 : Nat),
 Ent.orow ((9 : Nat))
 (D.l
 [[D.s
 (ByteArray.mk #[(112 : UInt8), (114 : UInt8), (111 : UInt8), (99 : UInt8),
 (101 : UInt8), (115 : UInt8), (115 : UInt8), (32 : UInt8)])],
 [D.s (itW (↑i : Int))]])),
 ((20 : Nat),
 Ent.own ((124 : Nat))
 [Seg.c (SC.ptr ((20 : Nat)) (SO.lit ((0 : Nat)))),
 Seg.c
 (SC.osl ((5 : Nat)) ((99 : Nat)) (SN.lit ((0 : Nat)))
 (SN.sym (t1B st ta i).length))]),
 ((99 : Nat), Ent.orow ((5 : Nat)) (bytD (t1B st ta i))),
 ((4 : Nat),
 Ent.own ((101 : Nat))
 [Seg.c (SC.rows ((97 : Nat)) ta), Seg.c (SC.rows ((96 : Nat)) le),
 Seg.c (SC.rows ((72 : Nat)) la), Seg.c (SC.int IntKind.i64 (SI.sym st))])],
 nx := (204 : Nat) }
 (20 : Nat))
 (0 : Nat)).len ∧
 (1000 : Nat) - j < (1000 : Nat) - i_1 ∧
 IntKind.i64.wrap ((↑i_1 : Int) + (1 : Int)) = (↑j : Int) ∧
 Value.string (ByteArray.mk #[]) = Value.string (ByteArray.mk #[]) ∧
 ta.rows = ta.rows ∧
 (↑ta.len : Int) = (↑ta.len : Int) ∧
 (↑i : Int) = (↑i : Int) ∧
 (ta.el (↑i : Int).toNat (0 : Nat)).rows = (ta.el (↑i : Int).toNat (0 : Nat)).rows ∧
 (↑(ta.el (↑i : Int).toNat (0 : Nat)).len : Int) =
 (↑(ta.el (↑i : Int).toNat (0 : Nat)).len : Int) ∧
 ((bytD (t2B st ta i i_1)).app
 (bytD
 (lnB
 (D.l
 [[D.s
 (ByteArray.mk #[(110 : UInt8), (111 : UInt8), (100 : UInt8),
 (101 : UInt8), (32 : UInt8)])],
 [D.s (itW (↑i_1 : Int))],
 [D.s (ByteArray.mk #[(58 : UInt8), (32 : UInt8)])],
 [D.s
 (stT
 ((ta.el (↑i : Int).toNat (0 : Nat)).el (↑i_1 : Int).toNat
 (0 : Nat)).toB
 ((ta.el (↑i : Int).toNat (0 : Nat)).el (↑i_1 : Int).toNat
 ((0 : Nat) + (1 : Nat))))]])))).len =
 (t2B st ta i j).length ∧
 List.map (fun (b : UInt8) => [D.i (↑b.toNat : Int)]) (t2B st ta i i_1) ++
 List.map (fun (b : UInt8) => [D.i (↑b.toNat : Int)])
 (lnB
 (D.l
 [[D.s
 (ByteArray.mk #[(110 : UInt8), (111 : UInt8), (100 : UInt8),
 (101 : UInt8), (32 : UInt8)])],
 [D.s (itW (↑i_1 : Int))],
 [D.s (ByteArray.mk #[(58 : UInt8), (32 : UInt8)])],
 [D.s
 (stT
 ((ta.el (↑i : Int).toNat (0 : Nat)).el (↑i_1 : Int).toNat
 (0 : Nat)).toB
 ((ta.el (↑i : Int).toNat (0 : Nat)).el (↑i_1 : Int).toNat
 ((0 : Nat) + (1 : Nat))))]])) =
 List.map (fun (b : UInt8) => [D.i (↑b.toNat : Int)]) (t2B st ta i j) ∧
 ta.rows = ta.rows ∧ le.rows = le.rows ∧ la.rows = la.rows ∧ st = st) ∧
 (decide ((↑i_1 : Int) < (↑(ta.el (↑i : Int).toNat (0 : Nat)).len : Int)) = false →
 ∃ (j : Nat),
 j.le ta.len ∧
 ta.len - j < ta.len - i ∧
 IntKind.i64.wrap ((↑i : Int) + (1 : Int)) = (↑j : Int) ∧
 Value.string (ByteArray.mk #[]) = Value.string (ByteArray.mk #[]) ∧
 ta.rows = ta.rows ∧
 (↑ta.len : Int) = (↑ta.len : Int) ∧
 (t2B st ta i i_1).length = (t1B st ta j).length ∧
 List.map (fun (b : UInt8) => [D.i (↑b.toNat : Int)]) (t2B st ta i i_1) =
 List.map (fun (b : UInt8) => [D.i (↑b.toNat : Int)]) (t1B st ta j) ∧
 ta.rows = ta.rows ∧ le.rows = le.rows ∧ la.rows = la.rows ∧ st = st)) ∧
 (decide ((↑i : Int) < (↑ta.len : Int)) = false →
 (∃ (i_1 : Nat),
 i_1.le le.len ∧
 (0 : Int) = (↑i_1 : Int) ∧
 Value.string (ByteArray.mk #[]) = Value.string (ByteArray.mk #[]) ∧
 le.rows = le.rows ∧
 (↑le.len : Int) = (↑le.len : Int) ∧
 (t1B st ta i).length = (t3B st ta le i_1).length ∧
 List.map (fun (b : UInt8) => [D.i (↑b.toNat : Int)]) (t1B st ta i) =
 List.map (fun (b : UInt8) => [D.i (↑b.toNat : Int)]) (t3B st ta le i_1) ∧
 ta.rows = ta.rows ∧ le.rows = le.rows ∧ la.rows = la.rows ∧ st = st) ∧
 ∀ (i : Nat),
 i.le le.len →
 (decide ((↑i : Int) < (↑le.len : Int)) = true →
 ((0 : Int) ≤ (↑i : Int) ∧ (↑i : Int) < (↑le.len : Int)) ∧
 nI (↑i : Int) ∧
 nI (le.el (↑i : Int).toNat (0 : Nat)).toI ∧
 nI (le.el (↑i : Int).toNat ((0 : Nat) + (1 : Nat))).toI ∧
 itsOK (le.el (↑i : Int).toNat ((0 : Nat) + (1 : Nat) + (1 : Nat))) ∧
 (t3B st ta le i).length = (bytD (t3B st ta le i)).len ∧
 (0 : Nat) < (bytD (t3B st ta le i)).len ∧
 (4 : Nat) =
 (D.l
 [[D.s
 (ByteArray.mk #[(99 : UInt8), (104 : UInt8), (97 : UInt8), (110 : UInt8), (110 : UInt8), (101 : UInt8),
 (108 : UInt8), (32 : UInt8)])],
 [D.s (itW (↑i : Int))], [D.s (ByteArray.mk #[(58 : UInt8), (32 : UInt8)])],
 [D.s
 (elT (le.el (↑i : Int).toNat (0 : Nat)).toI (le.el (↑i : Int).toNat ((0 : Nat) + (1 : Nat))).toI
 (le.el (↑i : Int).toNat ((0 : Nat) + (1 : Nat) + (1 : Nat))))]]).len ∧
 ((0 : Nat) <
 (D.l
 [[D.s
 (ByteArray.mk #[(99 : UInt8), (104 : UInt8), (97 : UInt8), (110 : UInt8), (110 : UInt8), (101 : UInt8),
 (108 : UInt8), (32 : UInt8)])],
 [D.s (itW (↑i : Int))], [D.s (ByteArray.mk #[(58 : UInt8), (32 : UInt8)])],
 [D.s
 (elT (le.el (↑i : Int).toNat (0 : Nat)).toI (le.el (↑i : Int).toNat ((0 : Nat) + (1 : Nat))).toI
 (le.el (↑i : Int).toNat ((0 : Nat) + (1 : Nat) + (1 : Nat))))]]).len ∧
 (D.l
 [[D.s
 (ByteArray.mk #[(99 : UInt8), (104 : UInt8), (97 : UInt8), (110 : UInt8), (110 : UInt8), (101 : UInt8),
 (108 : UInt8), (32 : UInt8)])],
 [D.s (itW (↑i : Int))], [D.s (ByteArray.mk #[(58 : UInt8), (32 : UInt8)])],
 [D.s
 (elT (le.el (↑i : Int).toNat (0 : Nat)).toI (le.el (↑i : Int).toNat ((0 : Nat) + (1 : Nat))).toI
 (le.el (↑i : Int).toNat ((0 : Nat) + (1 : Nat) + (1 : Nat))))]]).len ≤
 (1000000 : Nat)) ∧
 (bytD (t3B st ta le i)).len +
 (lnB
 (D.l
 [[D.s
 (ByteArray.mk #[(99 : UInt8), (104 : UInt8), (97 : UInt8), (110 : UInt8), (110 : UInt8), (101 : UInt8),
 (108 : UInt8), (32 : UInt8)])],
 [D.s (itW (↑i : Int))], [D.s (ByteArray.mk #[(58 : UInt8), (32 : UInt8)])],
 [D.s
 (elT (le.el (↑i : Int).toNat (0 : Nat)).toI
 (le.el (↑i : Int).toNat ((0 : Nat) + (1 : Nat))).toI
 (le.el (↑i : Int).toNat ((0 : Nat) + (1 : Nat) + (1 : Nat))))]])).length ≤
 (140737488355328 : Nat) ∧
 ∃ (j : Nat),
 j.le le.len ∧
 le.len - j < le.len - i ∧
 IntKind.i64.wrap ((↑i : Int) + (1 : Int)) = (↑j : Int) ∧
 Value.string (ByteArray.mk #[]) = Value.string (ByteArray.mk #[]) ∧
 le.rows = le.rows ∧
 (↑le.len : Int) = (↑le.len : Int) ∧
 ((bytD (t3B st ta le i)).app
 (bytD
 (lnB
 (D.l
 [[D.s
 (ByteArray.mk #[(99 : UInt8), (104 : UInt8), (97 : UInt8), (110 : UInt8),
 (110 : UInt8), (101 : UInt8), (108 : UInt8), (32 : UInt8)])],
 [D.s (itW (↑i : Int))], [D.s (ByteArray.mk #[(58 : UInt8), (32 : UInt8)])],
 [D.s
 (elT (le.el (↑i : Int).toNat (0 : Nat)).toI
 (le.el (↑i : Int).toNat ((0 : Nat) + (1 : Nat))).toI
 (le.el (↑i : Int).toNat ((0 : Nat) + (1 : Nat) + (1 : Nat))))]])))).len =
 (t3B st ta le j).length ∧
 List.map (fun (b : UInt8) => [D.i (↑b.toNat : Int)]) (t3B st ta le i) ++
 List.map (fun (b : UInt8) => [D.i (↑b.toNat : Int)])
 (lnB
 (D.l
 [[D.s
 (ByteArray.mk #[(99 : UInt8), (104 : UInt8), (97 : UInt8), (110 : UInt8),
 (110 : UInt8), (101 : UInt8), (108 : UInt8), (32 : UInt8)])],
 [D.s (itW (↑i : Int))], [D.s (ByteArray.mk #[(58 : UInt8), (32 : UInt8)])],
 [D.s
 (elT (le.el (↑i : Int).toNat (0 : Nat)).toI
 (le.el (↑i : Int).toNat ((0 : Nat) + (1 : Nat))).toI
 (le.el (↑i : Int).toNat ((0 : Nat) + (1 : Nat) + (1 : Nat))))]])) =
 List.map (fun (b : UInt8) => [D.i (↑b.toNat : Int)]) (t3B st ta le j) ∧
 ta.rows = ta.rows ∧ le.rows = le.rows ∧ la.rows = la.rows ∧ st = st) ∧
 (decide ((↑i : Int) < (↑le.len : Int)) = false →
 (∃ (i_1 : Nat),
 i_1.le la.len ∧
 (0 : Int) = (↑i_1 : Int) ∧
 Value.string (ByteArray.mk #[]) = Value.string (ByteArray.mk #[]) ∧
 la.rows = la.rows ∧
 (↑la.len : Int) = (↑la.len : Int) ∧
 (t3B st ta le i).length = (t4B st ta le la i_1).length ∧
 List.map (fun (b : UInt8) => [D.i (↑b.toNat : Int)]) (t3B st ta le i) =
 List.map (fun (b : UInt8) => [D.i (↑b.toNat : Int)]) (t4B st ta le la i_1) ∧
 ta.rows = ta.rows ∧ le.rows = le.rows ∧ la.rows = la.rows ∧ st = st) ∧
 ∀ (i : Nat),
 i.le la.len →
 (decide ((↑i : Int) < (↑la.len : Int)) = true →
 ((0 : Int) ≤ (↑i : Int) ∧ (↑i : Int) < (↑la.len : Int)) ∧
 nI (la.el (↑i : Int).toNat (0 : Nat)).toI ∧
 nI (la.el (↑i : Int).toNat ((0 : Nat) + (1 : Nat))).toI ∧
 nI (la.el (↑i : Int).toNat ((0 : Nat) + (1 : Nat) + (1 : Nat))).toI ∧
 (t4B st ta le la i).length = (bytD (t4B st ta le la i)).len ∧
 (0 : Nat) < (bytD (t4B st ta le la i)).len ∧
 (1 : Nat) =
 (D.l
 [[D.s
 (alT (la.el (↑i : Int).toNat (0 : Nat)).toI
 (la.el (↑i : Int).toNat ((0 : Nat) + (1 : Nat))).toI
 (la.el (↑i : Int).toNat ((0 : Nat) + (1 : Nat) + (1 : Nat))).toI)]]).len ∧
 ((0 : Nat) <
 (D.l
 [[D.s
 (alT (la.el (↑i : Int).toNat (0 : Nat)).toI
 (la.el (↑i : Int).toNat ((0 : Nat) + (1 : Nat))).toI
 (la.el (↑i : Int).toNat ((0 : Nat) + (1 : Nat) + (1 : Nat))).toI)]]).len ∧
 (D.l
 [[D.s
 (alT (la.el (↑i : Int).toNat (0 : Nat)).toI
 (la.el (↑i : Int).toNat ((0 : Nat) + (1 : Nat))).toI
 (la.el (↑i : Int).toNat ((0 : Nat) + (1 : Nat) + (1 : Nat))).toI)]]).len ≤
 (1000000 : Nat)) ∧
 (bytD (t4B st ta le la i)).len +
 (lnB
 (D.l
 [[D.s
 (alT (la.el (↑i : Int).toNat (0 : Nat)).toI
 (la.el (↑i : Int).toNat ((0 : Nat) + (1 : Nat))).toI
 (la.el (↑i : Int).toNat ((0 : Nat) + (1 : Nat) + (1 : Nat))).toI)]])).length ≤
 (140737488355328 : Nat) ∧
 ∃ (j : Nat),
 j.le la.len ∧
 la.len - j < la.len - i ∧
 IntKind.i64.wrap ((↑i : Int) + (1 : Int)) = (↑j : Int) ∧
 Value.string (ByteArray.mk #[]) = Value.string (ByteArray.mk #[]) ∧
 la.rows = la.rows ∧
 (↑la.len : Int) = (↑la.len : Int) ∧
 ((bytD (t4B st ta le la i)).app
 (bytD
 (lnB
 (D.l
 [[D.s
 (alT (la.el (↑i : Int).toNat (0 : Nat)).toI
 (la.el (↑i : Int).toNat ((0 : Nat) + (1 : Nat))).toI
 (la.el (↑i : Int).toNat
 ((0 : Nat) + (1 : Nat) + (1 : Nat))).toI)]])))).len =
 (t4B st ta le la j).length ∧
 List.map (fun (b : UInt8) => [D.i (↑b.toNat : Int)]) (t4B st ta le la i) ++
 List.map (fun (b : UInt8) => [D.i (↑b.toNat : Int)])
 (lnB
 (D.l
 [[D.s
 (alT (la.el (↑i : Int).toNat (0 : Nat)).toI
 (la.el (↑i : Int).toNat ((0 : Nat) + (1 : Nat))).toI
 (la.el (↑i : Int).toNat
 ((0 : Nat) + (1 : Nat) + (1 : Nat))).toI)]])) =
 List.map (fun (b : UInt8) => [D.i (↑b.toNat : Int)]) (t4B st ta le la j) ∧
 ta.rows = ta.rows ∧ le.rows = le.rows ∧ la.rows = la.rows ∧ st = st) ∧
 (decide ((↑i : Int) < (↑la.len : Int)) = false →
 nI (↑la.len : Int) ∧
 (t4B st ta le la i).length = (bytD (t4B st ta le la i)).len ∧
 (0 : Nat) < (bytD (t4B st ta le la i)).len ∧
 (1 : Nat) =
 (D.l
 [[D.s
 (if (↑la.len : Int) = (0 : Int) then
 (ByteArray.mk #[(110 : UInt8), (111 : UInt8), (32 : UInt8), (97 : UInt8), (108 : UInt8), (97 : UInt8),
 (114 : UInt8), (109 : UInt8)])
 else
 itW (↑la.len : Int) ++
 (ByteArray.mk #[(32 : UInt8), (97 : UInt8), (108 : UInt8), (97 : UInt8), (114 : UInt8), (109 : UInt8),
 (115 : UInt8)]))]]).len ∧
 ((0 : Nat) <
 (D.l
 [[D.s
 (if (↑la.len : Int) = (0 : Int) then
 (ByteArray.mk #[(110 : UInt8), (111 : UInt8), (32 : UInt8), (97 : UInt8), (108 : UInt8), (97 : UInt8),
 (114 : UInt8), (109 : UInt8)])
 else
 itW (↑la.len : Int) ++
 (ByteArray.mk #[(32 : UInt8), (97 : UInt8), (108 : UInt8), (97 : UInt8), (114 : UInt8), (109 : UInt8),
 (115 : UInt8)]))]]).len ∧
 (D.l
 [[D.s
 (if (↑la.len : Int) = (0 : Int) then
 (ByteArray.mk #[(110 : UInt8), (111 : UInt8), (32 : UInt8), (97 : UInt8), (108 : UInt8), (97 : UInt8),
 (114 : UInt8), (109 : UInt8)])
 else
 itW (↑la.len : Int) ++
 (ByteArray.mk #[(32 : UInt8), (97 : UInt8), (108 : UInt8), (97 : UInt8), (114 : UInt8), (109 : UInt8),
 (115 : UInt8)]))]]).len ≤
 (1000000 : Nat)) ∧
 (bytD (t4B st ta le la i)).len +
 (lnB
 (D.l
 [[D.s
 (if (↑la.len : Int) = (0 : Int) then
 (ByteArray.mk #[(110 : UInt8), (111 : UInt8), (32 : UInt8), (97 : UInt8), (108 : UInt8),
 (97 : UInt8), (114 : UInt8), (109 : UInt8)])
 else
 itW (↑la.len : Int) ++
 (ByteArray.mk #[(32 : UInt8), (97 : UInt8), (108 : UInt8), (97 : UInt8), (114 : UInt8),
 (109 : UInt8), (115 : UInt8)]))]])).length ≤
 (140737488355328 : Nat) ∧
 ((bytD (t4B st ta le la i)).app
 (bytD
 (lnB
 (D.l
 [[D.s
 (if (↑la.len : Int) = (0 : Int) then
 (ByteArray.mk #[(110 : UInt8), (111 : UInt8), (32 : UInt8), (97 : UInt8), (108 : UInt8),
 (97 : UInt8), (114 : UInt8), (109 : UInt8)])
 else
 itW (↑la.len : Int) ++
 (ByteArray.mk #[(32 : UInt8), (97 : UInt8), (108 : UInt8), (97 : UInt8), (114 : UInt8),
 (109 : UInt8), (115 : UInt8)]))]])))).len =
 ((bytD (t4B st ta le la i)).app
 (bytD
 (lnB
 (D.l
 [[D.s
 (if (↑la.len : Int) = (0 : Int) then
 (ByteArray.mk #[(110 : UInt8), (111 : UInt8), (32 : UInt8), (97 : UInt8), (108 : UInt8),
 (97 : UInt8), (114 : UInt8), (109 : UInt8)])
 else
 itW (↑la.len : Int) ++
 (ByteArray.mk #[(32 : UInt8), (97 : UInt8), (108 : UInt8), (97 : UInt8), (114 : UInt8),
 (109 : UInt8), (115 : UInt8)]))]])))).len ∧
 (0 : Nat) <
 ((bytD (t4B st ta le la i)).app
 (bytD
 (lnB
 (D.l
 [[D.s
 (if (↑la.len : Int) = (0 : Int) then
 (ByteArray.mk #[(110 : UInt8), (111 : UInt8), (32 : UInt8), (97 : UInt8), (108 : UInt8),
 (97 : UInt8), (114 : UInt8), (109 : UInt8)])
 else
 itW (↑la.len : Int) ++
 (ByteArray.mk #[(32 : UInt8), (97 : UInt8), (108 : UInt8), (97 : UInt8), (114 : UInt8),
 (109 : UInt8), (115 : UInt8)]))]])))).len ∧
 (0 : Nat) <
 ((bytD (t4B st ta le la i)).app
 (bytD
 (lnB
 (D.l
 [[D.s
 (if (↑la.len : Int) = (0 : Int) then
 (ByteArray.mk #[(110 : UInt8), (111 : UInt8), (32 : UInt8), (97 : UInt8), (108 : UInt8),
 (97 : UInt8), (114 : UInt8), (109 : UInt8)])
 else
 itW (↑la.len : Int) ++
 (ByteArray.mk #[(32 : UInt8), (97 : UInt8), (108 : UInt8), (97 : UInt8), (114 : UInt8),
 (109 : UInt8), (115 : UInt8)]))]])))).len ∧
 ((bytD (t4B st ta le la i)).app
 (bytD
 (lnB
 (D.l
 [[D.s
 (if (↑la.len : Int) = (0 : Int) then
 (ByteArray.mk #[(110 : UInt8), (111 : UInt8), (32 : UInt8), (97 : UInt8), (108 : UInt8),
 (97 : UInt8), (114 : UInt8), (109 : UInt8)])
 else
 itW (↑la.len : Int) ++
 (ByteArray.mk #[(32 : UInt8), (97 : UInt8), (108 : UInt8), (97 : UInt8), (114 : UInt8),
 (109 : UInt8), (115 : UInt8)]))]])))).len ≤
 (140737488355328 : Nat) ∧
 (∀ (i_1 : Nat),
 i_1 <
 ((bytD (t4B st ta le la i)).app
 (bytD
 (lnB
 (D.l
 [[D.s
 (if (↑la.len : Int) = (0 : Int) then
 (ByteArray.mk #[(110 : UInt8), (111 : UInt8), (32 : UInt8), (97 : UInt8),
 (108 : UInt8), (97 : UInt8), (114 : UInt8), (109 : UInt8)])
 else
 itW (↑la.len : Int) ++
 (ByteArray.mk #[(32 : UInt8), (97 : UInt8), (108 : UInt8), (97 : UInt8),
 (114 : UInt8), (109 : UInt8), (115 : UInt8)]))]])))).len →
 (0 : Int) ≤
 (((bytD (t4B st ta le la i)).app
 (bytD
 (lnB
 (D.l
 [[D.s
 (if (↑la.len : Int) = (0 : Int) then
 (ByteArray.mk #[(110 : UInt8), (111 : UInt8), (32 : UInt8), (97 : UInt8),
 (108 : UInt8), (97 : UInt8), (114 : UInt8), (109 : UInt8)])
 else
 itW (↑la.len : Int) ++
 (ByteArray.mk #[(32 : UInt8), (97 : UInt8), (108 : UInt8), (97 : UInt8),
 (114 : UInt8), (109 : UInt8), (115 : UInt8)]))]])))).el
 i_1 (0 : Nat)).toI ∧
 (((bytD (t4B st ta le la i)).app
 (bytD
 (lnB
 (D.l
 [[D.s
 (if (↑la.len : Int) = (0 : Int) then
 (ByteArray.mk #[(110 : UInt8), (111 : UInt8), (32 : UInt8), (97 : UInt8),
 (108 : UInt8), (97 : UInt8), (114 : UInt8), (109 : UInt8)])
 else
 itW (↑la.len : Int) ++
 (ByteArray.mk #[(32 : UInt8), (97 : UInt8), (108 : UInt8), (97 : UInt8),
 (114 : UInt8), (109 : UInt8), (115 : UInt8)]))]])))).el
 i_1 (0 : Nat)).toI <
 (256 : Int)) ∧
 Value.string
 (bytB
 ((bytD (t4B st ta le la i)).app
 (bytD
 (lnB
 (D.l
 [[D.s
 (if (↑la.len : Int) = (0 : Int) then
 (ByteArray.mk #[(110 : UInt8), (111 : UInt8), (32 : UInt8), (97 : UInt8),
 (108 : UInt8), (97 : UInt8), (114 : UInt8), (109 : UInt8)])
 else
 itW (↑la.len : Int) ++
 (ByteArray.mk #[(32 : UInt8), (97 : UInt8), (108 : UInt8), (97 : UInt8),
 (114 : UInt8), (109 : UInt8), (115 : UInt8)]))]]))))) =
 Value.string (teT st ta le la))))) (by kernel_rfl) ?_
    intro hd
    have h0 := t0B_len hd.st
    have a1 := hd.at1
    have e1 := hd.el1
    have l1 := hd.al1
    refine ⟨hd.st, rfl, ⟨Nat.succ_pos _, (show 2 ≤ 1000000 by decide)⟩, ?_, ⟨0, Nat.zero_le _, rfl, rfl, rfl, rfl, ap0 (show lnB _ = t1B st ta 0 from (List.append_nil _).symm), (congrArg (List.map _) (show lnB _ = t1B st ta 0 from (List.append_nil _).symm)), rfl, rfl, rfl, rfl⟩, fun p hp => ⟨fun hc => ?_, fun hc => ?_⟩⟩
    · show 0 + (t0B st).length ≤ _
      omega
    · have hc : p < ta.len := by simpa using hc
      have hA := hd.at2 p hc
      have b1 := t1B_len hd (p := p) (by omega)
      have b2 := hdB_len (p := p) (by omega)
      refine ⟨⟨by omega, by omega⟩, nN (by omega), (bytD_len _).symm, by rw [bytD_len]; exact t1B_pos _ _ _, rfl, ⟨Nat.succ_pos _, (show 2 ≤ 1000000 by decide)⟩, ?_, ⟨0, Nat.zero_le _, rfl, rfl, rfl, rfl, rfl, rfl, rfl, ap1 (t2B_zero st ta p), ap2 (t2B_zero st ta p), rfl, rfl, rfl, rfl⟩, fun n hn => ⟨fun hc2 => ?_, fun hc2 => ?_⟩⟩
      · rw [bytD_len]
        show _ + (hdB p).length ≤ _
        omega
      · have hc2 : n < (ta.el p 0).len := of_decide_eq_true (p := (n : Int) < ((ta.el p 0).len : Int)) hc2 |> Int.ofNat_lt.1
        have c1 := t2B_len hd hc (n := n) (by omega)
        have c2 := nodB_len (n := n) (by omega) (hA.2 n hc2)
        refine ⟨⟨by omega, (show (n : Int) < ((ta.el p 0).len : Int) by omega)⟩, nN (by omega), hA.2 n hc2, (bytD_len _).symm, by rw [bytD_len]; exact t2B_pos _ _ _ _, rfl, ⟨Nat.succ_pos _, (show 4 ≤ 1000000 by decide)⟩, ?_, n + 1, hc2, by omega, inc hc2 hA.1, rfl, rfl, rfl, rfl, rfl, rfl, ap1 (t2B_succ st ta p n), ap2 (t2B_succ st ta p n), rfl, rfl, rfl, rfl⟩
        rw [bytD_len]
        show _ + (nodB (ta.el p 0) n).length ≤ _
        omega
      · have hn : n ≤ (ta.el p 0).len := hn
        have hc2 : ¬ n < (ta.el p 0).len := fun h => by
          have := of_decide_eq_false (p := (n : Int) < ((ta.el p 0).len : Int)) hc2
          omega
        obtain rfl : n = (ta.el p 0).len := by omega
        exact ⟨p + 1, hc, by omega, inc hc a1, rfl, rfl, rfl, by rw [t1B_succ], by rw [t1B_succ], rfl, rfl, rfl, rfl⟩
    · have hp : p ≤ ta.len := hp
      have hc : ¬ p < ta.len := by simpa using hc
      obtain rfl : p = ta.len := by omega
      refine ⟨⟨0, Nat.zero_le _, rfl, rfl, rfl, rfl, by rw [t3B]; exact congrArg List.length (List.append_nil _).symm, congrArg (List.map _) (List.append_nil _).symm, rfl, rfl, rfl, rfl⟩, fun c hcc => ⟨fun hc2 => ?_, fun hc2 => ?_⟩⟩
      · have hc2 : c < le.len := by simpa using hc2
        have hE := hd.el2 c hc2
        have c1 := t3B_len hd (c := c) (by omega)
        have c2 := chaB_len (c := c) (by omega) hE
        refine ⟨⟨by omega, by omega⟩, nN (by omega), hE.1, hE.2.1, hE.2.2, (bytD_len _).symm, by rw [bytD_len]; exact t3B_pos _ _ _ _, rfl, ⟨Nat.succ_pos _, (show 4 ≤ 1000000 by decide)⟩, ?_, c + 1, hc2, by omega, inc hc2 e1, rfl, rfl, rfl, ap1 (t3B_succ st ta le c), ap2 (t3B_succ st ta le c), rfl, rfl, rfl, rfl⟩
        rw [bytD_len]
        show _ + (chaB le c).length ≤ _
        omega
      · have hcc : c ≤ le.len := hcc
        have hc2 : ¬ c < le.len := by simpa using hc2
        obtain rfl : c = le.len := by omega
        refine ⟨⟨0, Nat.zero_le _, rfl, rfl, rfl, rfl, congrArg List.length (List.append_nil _).symm, congrArg (List.map _) (List.append_nil _).symm, rfl, rfl, rfl, rfl⟩, fun i hi => ⟨fun hc3 => ?_, fun hc3 => ?_⟩⟩
        · have hc3 : i < la.len := by simpa using hc3
          have hL := hd.al2 i hc3
          have c1 := t4B_len hd (c := i) (by omega)
          have c2 := alaB_len hL
          refine ⟨⟨by omega, by omega⟩, hL.1, hL.2.1, hL.2.2, (bytD_len _).symm, by rw [bytD_len]; exact t4B_pos _ _ _ _ _, rfl, ⟨Nat.succ_pos _, (show 1 ≤ 1000000 by decide)⟩, ?_, i + 1, hc3, by omega, inc hc3 l1, rfl, rfl, rfl, ap1 (t4B_succ st ta le la i), ap2 (t4B_succ st ta le la i), rfl, rfl, rfl, rfl⟩
          rw [bytD_len]
          show _ + (alaB la i).length ≤ _
          omega
        · have hi : i ≤ la.len := hi
          have hc3 : ¬ i < la.len := by simpa using hc3
          obtain rfl : i = la.len := by omega
          have c1 := t4B_len hd (Nat.le_refl la.len)
          have c2 := t4B_pos st ta le la la.len
          have c3 := alsT_size (nN (i := la.len) (by omega))
          have c4 := lnZ1 (alsT (la.len : Int))
          have eF : ((bytD (t4B st ta le la la.len)).app (bytD (lnS [alsT (la.len : Int)]))) = bytD (teB st ta le la) := bytD_app _ _
          have eL : (teB st ta le la).length = (t4B st ta le la la.len).length + (lnS [alsT (la.len : Int)]).length := List.length_append
          refine ⟨nN (by omega), (bytD_len _).symm, by rw [bytD_len]; exact c2, rfl, ⟨Nat.succ_pos _, (show 1 ≤ 1000000 by decide)⟩, ?_, rfl, ?_⟩
          · rw [bytD_len]
            show _ + (lnS [alsT (la.len : Int)]).length ≤ _
            omega
          · show 0 < ((bytD (t4B st ta le la la.len)).app (bytD (lnS [alsT (la.len : Int)]))).len ∧ 0 < ((bytD (t4B st ta le la la.len)).app (bytD (lnS [alsT (la.len : Int)]))).len ∧ ((bytD (t4B st ta le la la.len)).app (bytD (lnS [alsT (la.len : Int)]))).len ≤ 140737488355328 ∧ (∀ i, i < ((bytD (t4B st ta le la la.len)).app (bytD (lnS [alsT (la.len : Int)]))).len → 0 ≤ (((bytD (t4B st ta le la la.len)).app (bytD (lnS [alsT (la.len : Int)]))).el i 0).toI ∧ (((bytD (t4B st ta le la la.len)).app (bytD (lnS [alsT (la.len : Int)]))).el i 0).toI < 256) ∧ Value.string (bytB ((bytD (t4B st ta le la la.len)).app (bytD (lnS [alsT (la.len : Int)])))) = Value.string (teT st ta le la)
            rw [eF, bytB_bytD]
            refine ⟨by rw [bytD_len]; omega, by rw [bytD_len]; omega, by rw [bytD_len]; omega, bytD_ok _, rfl⟩
  · trivial
end Go.Proofs.YtomodncooiddaaaDoor.Sx.Z
