/-
  Two values of a struct or an array, of numbers and truths alone: are they equal?
-/
import Derived.ChangeKeysEq
namespace Go.Proofs.Ytbhbjhejkamlnaa.Sx
inductive CK | b | i (k : IntKind)
def CK.fits : CK → Value → Prop
  | .b, v => ∃ x, v = .bool x
  | .i k, v => ∃ n, v = .int k n
def Fit : List CK → List Value → Prop
  | [], [] => True
  | c :: r, v :: vs => c.fits v ∧ Fit r vs
  | _, _ => False
theorem Fit.len : ∀ {ks : List CK} {vs : List Value}, Fit ks vs → vs.length = ks.length
  | [], [], _ => rfl
  | _ :: _, _ :: _, h => by simp [Fit.len h.2]
  | [], _ :: _, h => h.elim
  | _ :: _, [], h => h.elim
theorem Fit.split : ∀ {a b : List CK} {vs : List Value}, Fit (a ++ b) vs → Fit a (vs.take a.length) ∧ Fit b (vs.drop a.length)
  | [], b, vs, h => ⟨by simp [Fit], by simpa using h⟩
  | c :: a, b, [], h => h.elim
  | c :: a, b, v :: vs, h => by
    obtain ⟨h1, h2⟩ := Fit.split (a := a) (b := b) h.2
    exact ⟨⟨h.1, h1⟩, h2⟩
abbrev CKs := List (CK × Nat)
def expand : CKs → List CK
  | [] => []
  | (c, n) :: r => List.replicate n c ++ expand r
theorem expand_append : ∀ a b : CKs, expand (a ++ b) = expand a ++ expand b
  | [], b => rfl
  | (c, n) :: a, b => by simp [expand, expand_append a b]
def arrCK (n : Nat) : CKs → CKs
  | [(c, m)] => [(c, n * m)]
  | l => (List.replicate n l).flatten
theorem expand_flat (l : CKs) : ∀ n, expand (List.replicate n l).flatten = (List.replicate n (expand l)).flatten
  | 0 => rfl
  | n + 1 => by simp [List.replicate_succ, expand_append, expand_flat l n]
theorem expand_arr (n : Nat) (l : CKs) : expand (arrCK n l) = (List.replicate n (expand l)).flatten := by
  unfold arrCK
  split
  · simp [expand]
  · exact expand_flat l n
def kindsF (f : TypeId → Option CKs) : List Field → Nat → Option CKs
  | [], _ => some []
  | x :: r, o => match f x.type with
    | some a => if !(x.name == "_") && Nat.beq x.offset o then (match kindsF f r (o + (expand a).length) with | some b => some (a ++ b) | none => none) else none
    | none => none
/-- What kind each cell of a type is. -/
def kindsT (P : Program) : Nat → TypeId → Option CKs
  | 0, _ => none
  | d + 1, T => match P.underlying T, P.info? T with
    | some .bool, some _ => some [(.b, 1)]
    | some (.int k), some _ => some [(.i k, 1)]
    | some (.struct fs), some i => if P.stoodInHeld T then none else (match kindsF (kindsT P d) fs.toList 0 with | some ks => if Nat.beq i.size (expand ks).length then some ks else none | none => none)
    | some (.array n e), some i => (match kindsT P d e, P.info? e with | some ks, some j => if Nat.beq j.size (expand ks).length && Nat.beq i.size (expand (arrCK n ks)).length then some (arrCK n ks) else none | _, _ => none)
    | _, _ => none
/-- A value of so many cells. -/
def ValOf (P : Program) (T : TypeId) (vs : List Value) (v : Value) : Prop :=
  match P.underlying T with
  | some (.struct _) | some (.array _ _) => v = .agg vs.toArray
  | _ => vs = [v]
theorem kindsT_size {P : Program} {d : Nat} {T : TypeId} {ks : CKs} (h : kindsT P d T = some ks) : ∃ D i, P.underlying T = some D ∧ P.info? T = some i ∧ ((∃ fs, D = .struct fs) ∨ (∃ n e, D = .array n e) → i.size = (expand ks).length) ∧ (D = .bool ∨ (∃ k, D = .int k) → (expand ks).length = 1) ∧ (D = .bool ∨ (∃ k, D = .int k) ∨ (∃ fs, D = .struct fs) ∨ (∃ n e, D = .array n e)) := by
  cases d with
  | zero => cases h
  | succ d =>
    simp only [kindsT] at h
    split at h
    · rename_i i h1 h2
      obtain rfl := by simpa using h
      exact ⟨_, i, h1, h2, (by rintro (⟨_, hh⟩ | ⟨_, _, hh⟩) <;> cases hh), fun _ => rfl, .inl rfl⟩
    · rename_i k i h1 h2
      obtain rfl := by simpa using h
      exact ⟨_, i, h1, h2, (by rintro (⟨_, hh⟩ | ⟨_, _, hh⟩) <;> cases hh), fun _ => rfl, .inr (.inl ⟨_, rfl⟩)⟩
    · rename_i fs i h1 h2
      split at h
      · cases h
      · split at h
        · split at h
          · rename_i hb
            obtain rfl := by simpa using h
            exact ⟨_, i, h1, h2, fun _ => Nat.eq_of_beq_eq_true hb, (by rintro (hh | ⟨_, hh⟩) <;> cases hh), .inr (.inr (.inl ⟨_, rfl⟩))⟩
          · cases h
        · cases h
    · rename_i n e i h1 h2
      split at h
      · split at h
        · rename_i hb
          obtain rfl := by simpa using h
          rw [Bool.and_eq_true] at hb
          exact ⟨_, i, h1, h2, fun _ => Nat.eq_of_beq_eq_true hb.2, (by rintro (hh | ⟨_, hh⟩) <;> cases hh), .inr (.inr (.inr ⟨_, _, rfl⟩))⟩
        · cases h
      · cases h
    · cases h
/-- A part of a row of cells. -/
theorem part_of {P : Program} {d : Nat} {T : TypeId} {ks : CKs} (h : kindsT P d T = some ks) {cs : List Value} {o : Nat} (hl : o + (expand ks).length ≤ cs.length) (w : World) :
    ∃ v, (part T cs.toArray o).run P w = .ok v w ∧ ValOf P T ((cs.drop o).take (expand ks).length) v := by
  obtain ⟨D, i, h1, h2, h3, h4, h5⟩ := kindsT_size h
  rcases h5 with rfl | ⟨k, rfl⟩ | ⟨fs, rfl⟩ | ⟨n, e, rfl⟩
  · have hlen := h4 (.inl rfl)
    rw [hlen] at hl ⊢
    obtain ⟨v, hv⟩ : ∃ v, cs[o]? = some v := ⟨_, List.getElem?_eq_getElem (by omega)⟩
    refine ⟨v, ?_, ?_⟩
    · simp [part, isAgg, run_underlying h1, hv]
    · simp only [ValOf, h1]
      rw [List.getElem?_eq_some_iff] at hv
      obtain ⟨hv1, rfl⟩ := hv
      rw [List.drop_eq_getElem_cons hv1]; rfl
  · have hlen := h4 (.inr ⟨_, rfl⟩)
    rw [hlen] at hl ⊢
    obtain ⟨v, hv⟩ : ∃ v, cs[o]? = some v := ⟨_, List.getElem?_eq_getElem (by omega)⟩
    refine ⟨v, ?_, ?_⟩
    · simp [part, isAgg, run_underlying h1, hv]
    · simp only [ValOf, h1]
      rw [List.getElem?_eq_some_iff] at hv
      obtain ⟨hv1, rfl⟩ := hv
      rw [List.drop_eq_getElem_cons hv1]; rfl
  · have hs := h3 (.inl ⟨_, rfl⟩)
    refine ⟨.agg ((cs.drop o).take (expand ks).length).toArray, ?_, by simp only [ValOf, h1]⟩
    have : (sizeOf T).run P w = .ok i.size w := by simp [sizeOf, typeInfo, h2]
    simp [part, isAgg, run_underlying h1, this, hs]
  · have hs := h3 (.inr ⟨_, _, rfl⟩)
    refine ⟨.agg ((cs.drop o).take (expand ks).length).toArray, ?_, by simp only [ValOf, h1]⟩
    have : (sizeOf T).run P w = .ok i.size w := by simp [sizeOf, typeInfo, h2]
    simp [part, isAgg, run_underlying h1, this, hs]
/-- What two values of a type say of one another. -/
def EqAt (P : Program) (f : TypeId → Option CKs) (e : Nat) : Prop := ∀ T ks, f T = some ks → ∀ (xs ys : List Value) (x y : Value), ValOf P T xs x → ValOf P T ys y → Fit (expand ks) xs → Fit (expand ks) ys → ∀ w, ∃ r, (Op.equalIn e T x y).run P w = .ok r w ∧ (r = true ↔ xs = ys)
theorem cut_eq {α : Type _} {a b : List α} (n : Nat) : a = b ↔ a.take n = b.take n ∧ a.drop n = b.drop n :=
  ⟨fun h => by rw [h]; exact ⟨rfl, rfl⟩, fun h => by rw [← List.take_append_drop n a, ← List.take_append_drop n b, h.1, h.2]⟩
theorem Fit.part {a b : List CK} {xs : List Value} {o : Nat} (h : Fit (a ++ b) (xs.drop o)) : o + a.length ≤ xs.length ∨ a.length = 0 := by
  have := h.len
  simp only [List.length_drop, List.length_append] at this
  omega
theorem eqF_run {P : Program} {d e : Nat} (ih : EqAt P (kindsT P d) e) : ∀ (fs : List Field) (o : Nat) (ks : CKs), kindsF (kindsT P d) fs o = some ks → ∀ xs ys : List Value, o ≤ xs.length → o ≤ ys.length → Fit (expand ks) (xs.drop o) → Fit (expand ks) (ys.drop o) → ∀ w, ∃ r, (Op.eqFields e xs.toArray ys.toArray fs).run P w = .ok r w ∧ (r = true ↔ xs.drop o = ys.drop o)
  | [], o, ks, h, xs, ys, hx, hy, f1, f2, w => by
    simp only [kindsF, Option.some.injEq] at h
    subst h
    have l1 := f1.len
    have l2 := f2.len
    refine ⟨true, rfl, ?_⟩
    simp only [expand, List.length_nil, List.length_eq_zero_iff] at l1 l2
    simp [l1, l2]
  | x :: fs, o, ks, h, xs, ys, hx, hy, f1, f2, w => by
    simp only [kindsF] at h
    split at h
    · rename_i a ha
      split at h
      · rename_i hn
        simp only [Bool.and_eq_true, Bool.not_eq_true', beq_eq_false_iff_ne, ne_eq] at hn
        have ho := Nat.eq_of_beq_eq_true hn.2
        split at h
        · rename_i b hb
          obtain rfl := by simpa using h
          rw [expand_append] at f1 f2
          have q1 := f1.len
          have q2 := f2.len
          simp only [List.length_drop, List.length_append] at q1 q2
          obtain ⟨p1, p2⟩ := f1.split
          obtain ⟨p3, p4⟩ := f2.split
          rw [List.drop_drop] at p2 p4
          obtain ⟨u, hu, hu2⟩ := part_of ha (cs := xs) (o := o) (by omega) w
          obtain ⟨v, hv, hv2⟩ := part_of ha (cs := ys) (o := o) (by omega) w
          obtain ⟨r, hr, hr2⟩ := ih _ _ ha _ _ _ _ hu2 hv2 p1 p3 w
          obtain ⟨r', hr', hr2'⟩ := eqF_run ih fs _ _ hb xs ys (by omega) (by omega) p2 p4 w
          rw [cut_eq (a := xs.drop o) (expand a).length, List.drop_drop, List.drop_drop, ← hr2, ← hr2']
          cases r with
          | false => exact ⟨false, by simp [Op.eqFields, hn.1, ho, hu, hv, hr], by simp⟩
          | true => exact ⟨r', by simp [Op.eqFields, hn.1, ho, hu, hv, hr, hr'], by simp⟩
        · cases h
      · cases h
    · cases h
theorem eqI_run {P : Program} {d e : Nat} {T : TypeId} {ks : CKs} {sz : Nat} (ih : EqAt P (kindsT P d) e) (hk : kindsT P d T = some ks) (hsz : sz = (expand ks).length) : ∀ (m j : Nat) (xs ys : List Value), j * sz ≤ xs.length → j * sz ≤ ys.length → Fit (List.replicate m (expand ks)).flatten (xs.drop (j * sz)) → Fit (List.replicate m (expand ks)).flatten (ys.drop (j * sz)) → ∀ w, ∃ r, (Op.eqItems e T sz xs.toArray ys.toArray (List.range' j m)).run P w = .ok r w ∧ (r = true ↔ xs.drop (j * sz) = ys.drop (j * sz))
  | 0, j, xs, ys, hx, hy, f1, f2, w => by
    have l1 := f1.len
    have l2 := f2.len
    refine ⟨true, rfl, ?_⟩
    simp only [List.replicate_zero, List.flatten_nil, List.length_nil, List.length_eq_zero_iff] at l1 l2
    simp [l1, l2]
  | m + 1, j, xs, ys, hx, hy, f1, f2, w => by
    rw [List.replicate_succ, List.flatten_cons] at f1 f2
    have q1 := f1.len
    have q2 := f2.len
    simp only [List.length_drop, List.length_append] at q1 q2
    obtain ⟨p1, p2⟩ := f1.split
    obtain ⟨p3, p4⟩ := f2.split
    have hjs : j * sz + (expand ks).length = (j + 1) * sz := by rw [Nat.add_mul, hsz]; omega
    rw [List.drop_drop, hjs] at p2 p4
    obtain ⟨u, hu, hu2⟩ := part_of hk (cs := xs) (o := j * sz) (by omega) w
    obtain ⟨v, hv, hv2⟩ := part_of hk (cs := ys) (o := j * sz) (by omega) w
    obtain ⟨r, hr, hr2⟩ := ih _ _ hk _ _ _ _ hu2 hv2 p1 p3 w
    obtain ⟨r', hr', hr2'⟩ := eqI_run ih hk hsz m (j + 1) xs ys (by omega) (by omega) p2 p4 w
    rw [cut_eq (a := xs.drop (j * sz)) (expand ks).length, List.drop_drop, List.drop_drop, hjs, ← hr2, ← hr2', List.range'_succ]
    cases r with
    | false => exact ⟨false, by simp [Op.eqItems, hu, hv, hr], by simp⟩
    | true => exact ⟨r', by simp [Op.eqItems, hu, hv, hr, hr'], by simp⟩
theorem eqAt {P : Program} : ∀ d k, EqAt P (kindsT P d) (d + k)
  | 0, k => fun T ks h => by cases h
  | d + 1, k => by
    intro T ks h xs ys x y hx hy f1 f2 w
    have ih := eqAt (P := P) d k
    rw [show d + 1 + k = (d + k) + 1 by omega]
    simp only [kindsT] at h
    split at h
    · rename_i i h1 h2
      obtain rfl := by simpa using h
      simp only [ValOf, h1] at hx hy
      subst hx hy
      obtain ⟨a, rfl⟩ := f1.1
      obtain ⟨b, rfl⟩ := f2.1
      exact ⟨a == b, run_equalIn_bool w _ _ _ _ h1, by simp⟩
    · rename_i q i h1 h2
      obtain rfl := by simpa using h
      simp only [ValOf, h1] at hx hy
      subst hx hy
      obtain ⟨a, rfl⟩ := f1.1
      obtain ⟨b, rfl⟩ := f2.1
      exact ⟨a == b, run_equalIn_int w _ _ _ _ _ _ h1, by simp⟩
    · rename_i fs i h1 h2
      split at h
      · cases h
      · rename_i hst
        split at h
        · rename_i l hl
          split at h
          · obtain rfl := by simpa using h
            simp only [ValOf, h1] at hx hy
            subst hx hy
            have hf : P.fieldsOf T = fs := by simp [Program.fieldsOf, h1]
            have := eqF_run ih fs.toList 0 l hl xs ys (Nat.zero_le _) (Nat.zero_le _) (by simpa using f1) (by simpa using f2) w
            rw [run_equalIn_struct w _ _ _ _ (by rw [hf]; exact h1) (by simpa using hst), hf]
            simpa using this
          · cases h
        · cases h
    · rename_i n e i h1 h2
      split at h
      · rename_i l j hl hj
        split at h
        · rename_i hb
          rw [Bool.and_eq_true] at hb
          obtain rfl := by simpa using h
          simp only [ValOf, h1] at hx hy
          subst hx hy
          rw [expand_arr] at f1 f2
          have hc : P.cellsOf e = (expand l).length := by simp [Program.cellsOf, hj, Nat.eq_of_beq_eq_true hb.1]
          rw [run_equalIn_array w _ _ _ h1 hj, List.range_eq_range']
          have := eqI_run ih hl hc n 0 xs ys (by omega) (by omega) (by simpa using f1) (by simpa using f2) w
          simpa using this
        · cases h
      · cases h
    · cases h
end Go.Proofs.Ytbhbjhejkamlnaa.Sx
