/-
  A region that draws its order: whichever is drawn, the same is known behind it.
-/
import Derived.Test.YtbhbjhejkamlnaaSxK
namespace Go.Proofs.Ytbhbjhejkamlnaa.Sx
open Go.RowKit

def idxs : List Oper → Nat → List (Nat × Option Nat)
  | [], _ => []
  | o :: r, i => (i, o.dst) :: idxs r (i + 1)
theorem idxs_mem : ∀ (l : List Oper) (i : Nat) (p : Nat × Option Nat), p ∈ idxs l i ↔ ∃ j o, l[j]? = some o ∧ p = (i + j, o.dst)
  | [], i, p => by simp [idxs]
  | o :: r, i, p => by
    simp only [idxs, List.mem_cons, idxs_mem r (i + 1) p]
    constructor
    · rintro (rfl | ⟨j, o', h, rfl⟩)
      · exact ⟨0, o, rfl, by simp⟩
      · exact ⟨j + 1, o', by simpa using h, by simp; omega⟩
    · rintro ⟨j, o', h, rfl⟩
      cases j with
      | zero => left; simp at h; subst h; simp
      | succ j => right; exact ⟨j, o', by simpa using h, by simp; omega⟩
def Rec.heap (r : Rec) : Heap := r.st ++ r.nw
def bit (ms : List Nat) (i j : Nat) : Bool := (ms.getD i 0).testBit j
def vS (ms : List Nat) (recs : List Rec) (i j : Nat) : Option SV := if Nat.beq j i then none else if bit ms i j then (match recs[j]? with | some r => some r.sv | none => some .junk) else if bit ms j i then none else some .junk
def vH (ms : List Nat) (recs : List Rec) (i j : Nat) : Option Heap := if bit ms i j then (match recs[j]? with | some r => some r.heap | none => none) else none
def nin (id : Nat) (l : List Nat) : Bool := l.any (Nat.beq id)
def remI (rm : List Nat) : Heap → Heap
  | [] => []
  | (id, e) :: r => if nin id rm then (id, .gone) :: remI rm r else (id, e) :: remI rm r
theorem remI_look (rm : List Nat) : ∀ (h : Heap) (id : Nat) e, look (remI rm h) id = some e → e = .gone ∨ (nin id rm = false ∧ look h id = some e)
  | [], id, e, h => by simp [remI, look] at h
  | (j, x) :: r, id, e, h => by
    simp only [remI] at h
    split at h <;> simp only [look] at h ⊢ <;> split at h
    · left; simpa using h.symm
    · rename_i hj; rw [if_neg hj]; exact remI_look rm r id e h
    · rename_i hn hj
      obtain rfl : j = id := by simpa using hj
      right; rw [if_pos hj]; exact ⟨by simpa using hn, h⟩
    · rename_i hj; rw [if_neg hj]; exact remI_look rm r id e h
/-- What operations touch that stand neither ahead of i nor behind it. -/
def unord (ms : List Nat) (gs : List (List Nat)) (i : Nat) : List Nat → List Nat
  | [] => []
  | j :: r => if Nat.beq j i || bit ms i j || bit ms j i then unord ms gs i r else gs.getD j [] ++ unord ms gs i r
theorem unord_mem {ms : List Nat} {gs : List (List Nat)} {i id : Nat} : ∀ {l : List Nat}, nin id (unord ms gs i l) = false → ∀ j ∈ l, j ≠ i → bit ms i j = false → bit ms j i = false → nin id (gs.getD j []) = false
  | [], _, j, hj, _, _, _ => by cases hj
  | k :: r, h, j, hj, hne, h1, h2 => by
    simp only [unord] at h
    rcases List.mem_cons.1 hj with rfl | hj
    · rw [if_neg (by simp [h1, h2]; omega)] at h
      simp only [nin, List.any_append, Bool.or_eq_false_iff] at h
      exact h.1
    · split at h
      · exact unord_mem h j hj hne h1 h2
      · simp only [nin, List.any_append, Bool.or_eq_false_iff] at h
        exact unord_mem (by simpa [nin] using h.2) j hj hne h1 h2
def keysIn (h : Heap) (g : List Nat) : Bool := h.all fun p => nin p.1 g
theorem keysIn_spec {g : List Nat} : ∀ {h : Heap}, keysIn h g = true → ∀ id, (look h id).isSome = true → nin id g = true
  | [], _, id, h => by simp [look] at h
  | (j, x) :: r, hk, id, h => by
    simp only [keysIn, List.all_cons, Bool.and_eq_true] at hk
    simp only [look] at h
    split at h
    · rename_i hj
      obtain rfl : j = id := by simpa using hj
      exact hk.1
    · exact keysIn_spec (h := r) (by simpa [keysIn] using hk.2) id h
def svGs : SV → List (Nat × Bool) | .cond g _ => g | _ => []
def noCond : Slots → Bool
  | [] => true
  | (_, .cond _ _) :: _ => false
  | _ :: r => noCond r
theorem noCond_spec : ∀ {tm : Slots}, noCond tm = true → ∀ t g x, look tm t ≠ some (.cond g x)
  | [], _, t, g, x => by simp [look]
  | (j, sv) :: r, h, t, g, x => by
    intro hl
    simp only [look] at hl
    split at hl
    · obtain rfl := by simpa using hl
      simp [noCond] at h
    · refine noCond_spec (tm := r) ?_ t g x hl
      cases sv <;> first | exact h | (simp [noCond] at h)

structure DIn where
  s : St
  ms : List Nat
  gs : List (List Nat)
  l : List Oper
def DIn.n (d : DIn) : Nat := d.l.length
def DIn.tmv (d : DIn) (recs : List Rec) (i : Nat) : Slots := mkS (vS d.ms recs i) (idxs d.l 0) d.s.tm
def DIn.hpv (d : DIn) (recs : List Rec) (i : Nat) : Heap := remI (unord d.ms d.gs i (List.range d.n)) (mkH (vH d.ms recs i) (List.range d.n) d.s.hp)
def dchk (nt : Nat) (d : Option Nat) (sv : SV) : Bool := match d with | some t => Nat.blt t nt && (svGs sv).all (fun p => !Nat.beq p.1 t) | none => true
/-- One operation, of what is known of those ahead of it alone. -/
def drawGo (tt : TT) (C : Cons) (nt : Nat) (ops : Array Oper) (d : DIn) : List Oper → Nat → List Rec → Option (List Rec)
  | [], _, recs => some recs
  | o :: r, i, recs => match sstep tt C ops (d.hpv recs i) (d.tmv recs i) (d.s.nx + 8 * i) o.guard o.op with
    | some q => if nwIn (d.s.nx + 8 * i) q.nw && keysIn q.heap (d.gs.getD i []) && dchk nt o.dst q.sv then drawGo tt C nt ops d r (i + 1) (recs ++ [q]) else none
    | none => none
/-- What is asked of the region itself. -/
def edgesOK : List Oper → Nat → Bool
  | [], _ => true
  | o :: r, i => (o.after.toList.all fun e => !Region.binds .any e || Nat.blt e.on i) && edgesOK r (i + 1)
def dstsOK : List Oper → Bool
  | [] => true
  | o :: r => (match o.dst with | some t => r.all (fun q => match q.dst with | some u => !Nat.beq t u | none => true) | none => true) && dstsOK r
def disj (a b : List Nat) : Bool := a.all fun x => !nin x b
def pairsOK (d : DIn) : Bool := (List.range d.n).all fun j => (List.range j).all fun i => bit d.ms j i || disj (d.gs.getD i []) (d.gs.getD j [])
/-- A guard's slot is written ahead of whoever asks it. -/
def guardsOK (d : DIn) (recs : List Rec) : Bool := (List.range d.n).all fun k => (match recs[k]? with
  | some q => (svGs q.sv).all fun p => (idxs d.l 0).all fun e => (match e.2 with | some t => !Nat.beq p.1 t || bit d.ms k e.1 | none => true)
  | none => true)
def vcs : List Rec → List Prop
  | [] => []
  | r :: l => r.vc ++ vcs l
def drawR (tt : TT) (C : Cons) (nt : Nat) (l : List Oper) (gs : List (List Nat)) (s : St) : Option (List Prop × St) :=
  let d : DIn := { s := s, ms := ancs l [], gs := gs, l := l }
  if edgesOK l 0 && dstsOK l && pairsOK d && noCond s.tm then
    (match drawGo tt C nt l.toArray d l 0 [] with
    | some recs => if guardsOK d recs then some (vcs recs, { tm := strip (mkS (fun j => match recs[j]? with | some r => some r.sv | none => none) (idxs l 0) s.tm), hp := mkH (fun j => match recs[j]? with | some r => some r.heap | none => none) (List.range l.length) s.hp, nx := s.nx + 8 * l.length }) else none
    | none => none)
  else none

/-! ### What the numbers' bits tell -/
theorem testBit_two (e k : Nat) : (2 ^ e).testBit k = decide (e = k) := Nat.testBit_two_pow
theorem ancStep_bit (acc : List Nat) (o : Oper) (k : Nat) : (ancStep acc o).testBit k = true ↔ ∃ e ∈ o.after.toList, Region.binds .any e = true ∧ (k = e.on ∨ (acc.getD e.on 0).testBit k = true) := by
  have key : ∀ (l : List Edge) (s : Nat), (l.foldl (fun s e => if Region.binds .any e then s ||| 2 ^ e.on ||| acc.getD e.on 0 else s) s).testBit k = true ↔ s.testBit k = true ∨ ∃ e ∈ l, Region.binds .any e = true ∧ (k = e.on ∨ (acc.getD e.on 0).testBit k = true) := by
    intro l
    induction l with
    | nil => intro s; simp
    | cons e r ih =>
      intro s
      rw [List.foldl_cons, ih]
      by_cases hb : Region.binds .any e = true
      · rw [if_pos hb]
        simp only [Nat.testBit_or, testBit_two, Bool.or_eq_true, decide_eq_true_eq, List.mem_cons, exists_eq_or_imp, hb, true_and]
        constructor
        · rintro (((h | h) | h) | h)
          · exact .inl h
          · exact .inr (.inl (.inl h.symm))
          · exact .inr (.inl (.inr h))
          · exact .inr (.inr h)
        · rintro (h | (h | h) | h)
          · exact .inl (.inl (.inl h))
          · exact .inl (.inl (.inr h.symm))
          · exact .inl (.inr h)
          · exact .inr h
      · rw [if_neg hb]
        simp only [List.mem_cons, exists_eq_or_imp, hb, false_and, false_or, Bool.false_eq_true]
  unfold ancStep
  rw [key]
  simp
theorem ancs_spec : ∀ (l : List Oper) (acc : List Nat), (∃ t, ancs l acc = acc ++ t) ∧ ∀ (j : Nat) o, l[j]? = some o → (ancs l acc).getD (acc.length + j) 0 = ancStep ((ancs l acc).take (acc.length + j)) o
  | [], acc => ⟨⟨[], by simp [ancs]⟩, fun j o h => by simp at h⟩
  | o :: r, acc => by
    obtain ⟨⟨t, ht⟩, ih⟩ := ancs_spec r (acc ++ [ancStep acc o])
    have e : ancs (o :: r) acc = ancs r (acc ++ [ancStep acc o]) := rfl
    refine ⟨⟨ancStep acc o :: t, by rw [e, ht]; simp⟩, fun j o' h => ?_⟩
    cases j with
    | zero =>
      simp at h; subst h
      rw [e, ht]
      simp
    | succ j =>
      have := ih j o' (by simpa using h)
      simp only [List.length_append, List.length_cons, List.length_nil] at this
      rw [e]
      have e2 : acc.length + (j + 1) = acc.length + (0 + 1) + j := by omega
      rw [e2]; exact this
theorem edgesOK_spec : ∀ {l : List Oper} {i : Nat}, edgesOK l i = true → ∀ (j : Nat) o, l[j]? = some o → ∀ e ∈ o.after.toList, Region.binds .any e = true → e.on < i + j
  | [], i, _, j, o, h => by simp at h
  | q :: r, i, hk, j, o, h => by
    simp only [edgesOK, Bool.and_eq_true] at hk
    cases j with
    | zero =>
      simp at h; subst h
      intro e he hb
      have := List.all_eq_true.1 hk.1 e he
      simp only [hb, Bool.not_true, Bool.false_or, Nat.blt_eq] at this
      omega
    | succ j =>
      intro e he hb
      have := edgesOK_spec hk.2 j o (by simpa using h) e he hb
      omega
theorem bit_iff {l : List Oper} (hk : edgesOK l 0 = true) {i : Nat} {o : Oper} (ho : l[i]? = some o) (k : Nat) : bit (ancs l []) i k = true ↔ ∃ e ∈ o.after.toList, Region.binds .any e = true ∧ (k = e.on ∨ bit (ancs l []) e.on k = true) := by
  have h1 := (ancs_spec l []).2 i o ho
  simp only [List.length_nil, Nat.zero_add] at h1
  unfold bit
  rw [h1, ancStep_bit]
  have hlt : ∀ e ∈ o.after.toList, Region.binds .any e = true → ((ancs l []).take i).getD e.on 0 = (ancs l []).getD e.on 0 := fun e he hb => by
    have := edgesOK_spec hk i o ho e he hb
    simp only [Nat.zero_add] at this
    simp only [List.getD_eq_getElem?_getD]
    rw [List.getElem?_take_of_lt this]
  constructor
  · rintro ⟨e, he, hb, h⟩; exact ⟨e, he, hb, by rw [← hlt e he hb]; exact h⟩
  · rintro ⟨e, he, hb, h⟩; exact ⟨e, he, hb, by rw [hlt e he hb]; exact h⟩
theorem ancs_len : ∀ (l : List Oper) (acc : List Nat), (ancs l acc).length = acc.length + l.length
  | [], acc => by simp [ancs]
  | o :: r, acc => by rw [show ancs (o :: r) acc = ancs r (acc ++ [ancStep acc o]) from rfl, ancs_len]; simp; omega
theorem bit_lt {l : List Oper} (hk : edgesOK l 0 = true) : ∀ (i k : Nat), bit (ancs l []) i k = true → k < i := by
  intro i
  induction i using Nat.strongRecOn with
  | _ i ih =>
    intro k h
    cases ho : l[i]? with
    | none =>
      have hl : (ancs l []).length ≤ i := by
        rw [ancs_len]
        have := List.getElem?_eq_none_iff.1 ho
        simpa using this
      unfold bit at h
      rw [List.getD_eq_getElem?_getD, List.getElem?_eq_none hl] at h
      simp at h
    | some o =>
      obtain ⟨e, he, hb, h'⟩ := (bit_iff hk ho k).1 h
      have hlt := edgesOK_spec hk i o ho e he hb
      simp only [Nat.zero_add] at hlt
      rcases h' with rfl | h'
      · exact hlt
      · have := ih e.on hlt k h'; omega
/-- What stands ahead of one that has come up has come up. -/
theorem bit_closed {l : List Oper} (hk : edgesOK l 0 = true) {D : Nat → Prop} (hD : ∀ i o, l[i]? = some o → D i → ∀ e ∈ o.after.toList, Region.binds .any e = true → D e.on) : ∀ (i k : Nat), i < l.length → D i → bit (ancs l []) i k = true → D k := by
  intro i
  induction i using Nat.strongRecOn with
  | _ i ih =>
    intro k hi hDi h
    have ho := List.getElem?_eq_getElem hi
    obtain ⟨e, he, hb, h'⟩ := (bit_iff hk ho k).1 h
    have hlt := edgesOK_spec hk i _ ho e he hb
    simp only [Nat.zero_add] at hlt
    have hDe := hD i _ ho hDi e he hb
    rcases h' with rfl | h'
    · exact hDe
    · exact ih e.on hlt k (by omega) hDe h'
theorem drawGo_spec {tt : TT} {C : Cons} {nt : Nat} {ops : Array Oper} {d : DIn} : ∀ (l : List Oper) (i : Nat) (r0 recs : List Rec), drawGo tt C nt ops d l i r0 = some recs → r0.length = i → (∃ t, recs = r0 ++ t) ∧ recs.length = i + l.length ∧
    ∀ (j : Nat) o, l[j]? = some o → ∃ q, recs[i + j]? = some q ∧ sstep tt C ops (d.hpv (recs.take (i + j)) (i + j)) (d.tmv (recs.take (i + j)) (i + j)) (d.s.nx + 8 * (i + j)) o.guard o.op = some q ∧ nwIn (d.s.nx + 8 * (i + j)) q.nw = true ∧
      keysIn q.heap (d.gs.getD (i + j) []) = true ∧ dchk nt o.dst q.sv = true
  | [], i, r0, recs, h, hl => by
    simp only [drawGo, Option.some.injEq] at h
    subst h
    exact ⟨⟨[], by simp⟩, by simpa using hl, fun j o h => by simp at h⟩
  | o :: r, i, r0, recs, h, hl => by
    simp only [drawGo] at h
    split at h
    · rename_i q hq
      split at h
      · rename_i hok
        simp only [Bool.and_eq_true] at hok
        obtain ⟨⟨t, ht⟩, hlen, ih⟩ := drawGo_spec r (i + 1) (r0 ++ [q]) recs h (by simp [hl])
        have htk : recs.take i = r0 := by rw [ht, ← hl]; simp
        refine ⟨⟨q :: t, by rw [ht]; simp⟩, by rw [hlen]; simp; omega, fun j o' ho => ?_⟩
        cases j with
        | zero =>
          simp at ho; subst ho
          refine ⟨q, ?_, ?_, hok.1.1, hok.1.2, hok.2⟩
          · rw [ht, ← hl]; simp
          · rw [show i + 0 = i from rfl, htk]; exact hq
        | succ j =>
          have := ih j o' (by simpa using ho)
          have e : i + (j + 1) = i + 1 + j := by omega
          rw [e]; exact this
      · cases h
    · cases h
end Go.Proofs.Ytbhbjhejkamlnaa.Sx
