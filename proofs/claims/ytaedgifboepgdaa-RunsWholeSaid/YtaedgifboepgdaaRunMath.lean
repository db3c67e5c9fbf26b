/- Runs of exceptions, in plain words. -/
namespace Go.Proofs.Ytaedgifboepgdaa
namespace Rn
set_option linter.unusedVariables false

abbrev E := Int × Int
/-- The chunk ahead of the k-th exception; -1 ahead of the first. -/
def la (l : List E) : Nat → Int
  | 0 => -1
  | k + 1 => (l[k]?.getD (0, 0)).1
theorem la_succ {l : List E} {k : Nat} (h : k < l.length) : la l (k + 1) = l[k].1 := by
  show (l[k]?.getD (0, 0)).1 = _
  rw [List.getElem?_eq_getElem h]; rfl
/-- Are the first k in order? -/
def ordB (l : List E) (k : Nat) : Bool := (List.range k).all fun i => decide (la l i < la l (i + 1))
theorem ordB_zero (l : List E) : ordB l 0 = true := rfl
theorem ordB_succ (l : List E) (k : Nat) : ordB l (k + 1) = (ordB l k && decide (la l k < la l (k + 1))) := by
  unfold ordB
  rw [List.range_succ, List.all_append]
  simp
theorem ordB_iff {l : List E} {k : Nat} : ordB l k = true ↔ ∀ i, i < k → la l i < la l (i + 1) := by
  unfold ordB
  rw [List.all_eq_true]
  constructor
  · intro h i hi
    simpa using h i (List.mem_range.2 hi)
  · intro h i hi
    simpa using h i (List.mem_range.1 hi)
theorem ordB_not {l : List E} {k n : Nat} (hk : k < n) (h : ¬ la l k < la l (k + 1)) : ordB l n = false := by
  cases e : ordB l n with
  | false => rfl
  | true => exact (h (ordB_iff.1 e k hk)).elim
/-- May runs be of these? -/
def rightB (m : Int) (l : List E) : Bool := decide (1 ≤ m) && ordB l l.length
theorem right_iff {m : Int} {l : List E} : rightB m l = true ↔ 1 ≤ m ∧ ∀ i, i < l.length → la l i < la l (i + 1) := by
  unfold rightB
  rw [Bool.and_eq_true, ordB_iff]
  simp
theorem ord_pos {l : List E} {k : Nat} (h : ∀ i, i < k → la l i < la l (i + 1)) : ∀ i, i < k → 0 ≤ la l (i + 1) := by
  intro i hi
  induction i with
  | zero => have := h 0 hi; have e : la l 0 = -1 := rfl; omega
  | succ i ih => have := h (i + 1) hi; have := ih (by omega); omega
theorem pos_at {m : Int} {l : List E} (h : rightB m l = true) {i : Nat} (hi : i < l.length) : 0 ≤ l[i].1 := by
  have := ord_pos (right_iff.1 h).2 i hi
  rwa [la_succ hi] at this
theorem rise_at {m : Int} {l : List E} (h : rightB m l = true) {i : Nat} (hi : i + 1 < l.length) : (l[i]'(by omega)).1 < l[i + 1].1 := by
  have := (right_iff.1 h).2 (i + 1) hi
  rwa [la_succ hi, la_succ (by omega)] at this

/-- The last one's chunk. -/
def lastOf (l : List E) : Int := (l.getLast?.getD (0, 0)).1
theorem lastOf_snoc (l : List E) (x : E) : lastOf (l ++ [x]) = x.1 := by unfold lastOf; simp
theorem lastOf_take {l : List E} {k : Nat} (h : k < l.length) : lastOf (l.take (k + 1)) = l[k].1 := by
  rw [List.take_add_one, List.getElem?_eq_getElem h]
  exact lastOf_snoc _ _
/-- The run that stands, and those behind it. -/
def grow (m : Int) : List E → List E → List (List E)
  | cur, [] => [cur]
  | cur, x :: r => if lastOf cur + 1 = x.1 ∧ (cur.length : Int) < m then grow m (cur ++ [x]) r else cur :: grow m [x] r
/-- All runs. -/
def told (m : Int) : List E → List (List E)
  | [] => []
  | x :: r => grow m [x] r
theorem grow_nil (m : Int) (cur : List E) : grow m cur [] = [cur] := by unfold grow; rfl
theorem grow_on {m : Int} {cur : List E} {x : E} {r : List E} (h : lastOf cur + 1 = x.1 ∧ (cur.length : Int) < m) : grow m cur (x :: r) = grow m (cur ++ [x]) r := by
  rw [grow]; rw [if_pos h]
theorem grow_new {m : Int} {cur : List E} {x : E} {r : List E} (h : ¬ (lastOf cur + 1 = x.1 ∧ (cur.length : Int) < m)) : grow m cur (x :: r) = cur :: told m (x :: r) := by
  rw [grow]; rw [if_neg h]; rfl
theorem grow_ne (m : Int) (cur r : List E) : grow m cur r ≠ [] := by
  induction r generalizing cur with
  | nil => rw [grow_nil]; simp
  | cons x r ih =>
    by_cases h : lastOf cur + 1 = x.1 ∧ (cur.length : Int) < m
    · rw [grow_on h]; exact ih _
    · rw [grow_new h]; simp
theorem told_ne {m : Int} {l : List E} (h : l ≠ []) : told m l ≠ [] := by
  cases l with
  | nil => exact (h rfl).elim
  | cons x r => exact grow_ne m [x] r
theorem told_nil (m : Int) : told m [] = [] := rfl
theorem grow_len (m : Int) (cur r : List E) : (grow m cur r).length ≤ r.length + 1 := by
  induction r generalizing cur with
  | nil => rw [grow_nil]; simp
  | cons x r ih =>
    by_cases h : lastOf cur + 1 = x.1 ∧ (cur.length : Int) < m
    · rw [grow_on h]; have := ih (cur ++ [x]); simp only [List.length_cons]; omega
    · rw [grow_new h]; have := ih [x]; simp only [List.length_cons]; show (grow m [x] r).length + 1 ≤ _; omega
theorem told_len (m : Int) (l : List E) : (told m l).length ≤ l.length := by
  cases l with
  | nil => simp [told]
  | cons x r => exact grow_len m [x] r
/-- Where the first run's length is counted: so far. -/
def Cnt (m : Int) (l : List E) (k : Nat) : Prop := 1 ≤ k ∧ k ≤ l.length ∧ (k : Int) ≤ m ∧ told m l = grow m (l.take k) (l.drop k)
theorem Cnt.start {m : Int} {l : List E} (hm : 1 ≤ m) (h : l ≠ []) : Cnt m l 1 := by
  cases l with
  | nil => exact (h rfl).elim
  | cons x r => exact ⟨Nat.le_refl _, by simp, by omega, rfl⟩
theorem Cnt.more {m : Int} {l : List E} {k j : Nat} (h : Cnt m l k) (e : k = j + 1) (hk : j + 1 < l.length) (h1 : (k : Int) ≠ m) (h2 : l[j + 1].1 - (l[j]'(by omega)).1 = 1) : Cnt m l (k + 1) := by
  obtain ⟨a, b, c, d⟩ := h
  subst e
  refine ⟨by omega, by omega, by omega, ?_⟩
  rw [d, List.drop_eq_getElem_cons hk, grow_on]
  · congr 1
    rw [List.take_add_one (i := j + 1), List.getElem?_eq_getElem hk]; rfl
  · refine ⟨?_, ?_⟩
    · rw [lastOf_take (by omega)]; omega
    · rw [List.length_take]; omega
/-- The first run's length. -/
def Fst (m : Int) (l : List E) (k : Nat) : Prop := 1 ≤ k ∧ k ≤ l.length ∧ told m l = l.take k :: told m (l.drop k)
theorem Cnt.full {m : Int} {l : List E} {k : Nat} (h : Cnt m l k) (hk : ¬ k < l.length) : Fst m l k := by
  obtain ⟨a, b, c, d⟩ := h
  refine ⟨a, b, ?_⟩
  rw [d, List.drop_eq_nil_of_le (by omega), grow_nil, told_nil]
theorem Cnt.off {m : Int} {l : List E} {k j : Nat} (h : Cnt m l k) (e : k = j + 1) (hk : j + 1 < l.length) (h2 : (k : Int) = m ∨ l[j + 1].1 - (l[j]'(by omega)).1 ≠ 1) : Fst m l k := by
  obtain ⟨a, b, c, d⟩ := h
  subst e
  refine ⟨a, b, ?_⟩
  rw [d, List.drop_eq_getElem_cons hk, grow_new]
  rw [lastOf_take (by omega), List.length_take]
  omega
theorem Cnt.most {m : Int} {l : List E} {k : Nat} (h : Cnt m l k) (hk : k < l.length) (h2 : (k : Int) = m) : Fst m l k := by
  obtain ⟨j, hj⟩ : ∃ j, k = j + 1 := ⟨k - 1, by have := h.1; omega⟩
  exact h.off hj (by omega) (.inl h2)
/-- All runs, one behind the other, are the exceptions. -/
theorem grow_flat (m : Int) (cur r : List E) : (grow m cur r).flatten = cur ++ r := by
  induction r generalizing cur with
  | nil => rw [grow_nil]; simp
  | cons x r ih =>
    by_cases h : lastOf cur + 1 = x.1 ∧ (cur.length : Int) < m
    · rw [grow_on h, ih]; simp
    · rw [grow_new h]; rw [List.flatten_cons]; show cur ++ (grow m [x] r).flatten = _; rw [ih]; simp
theorem told_flat (m : Int) (l : List E) : (told m l).flatten = l := by
  cases l with
  | nil => rfl
  | cons x r => exact grow_flat m [x] r
/-- In a run chunk follows on chunk, and it is no longer than it may be. -/
def Good (m : Int) (r : List E) : Prop := 1 ≤ r.length ∧ (r.length : Int) ≤ m ∧ ∀ k (h : k + 1 < r.length), r[k + 1].1 = (r[k]'(by omega)).1 + 1
theorem Good.one {m : Int} (hm : 1 ≤ m) (x : E) : Good m [x] := ⟨by simp, by simpa using hm, fun k h => by simp at h⟩
theorem Good.more {m : Int} {cur : List E} {x : E} (h : Good m cur) (h2 : lastOf cur + 1 = x.1 ∧ (cur.length : Int) < m) : Good m (cur ++ [x]) := by
  obtain ⟨a, b, c⟩ := h
  refine ⟨by simp, by rw [List.length_append]; simp; omega, fun k hk => ?_⟩
  rw [List.length_append] at hk
  simp only [List.length_cons, List.length_nil] at hk
  by_cases e : k + 1 < cur.length
  · rw [List.getElem_append_left e, List.getElem_append_left (by omega)]; exact c k e
  · have e2 : k + 1 = cur.length := by omega
    rw [List.getElem_append_right (by omega), List.getElem_append_left (by omega)]
    have e3 : lastOf cur = (cur[k]'(by omega)).1 := by
      have := lastOf_take (l := cur) (k := k) (by omega)
      rw [List.take_of_length_le (by omega)] at this
      exact this
    rw [← e3]
    simp [e2]
    omega
theorem grow_good {m : Int} (hm : 1 ≤ m) (cur r : List E) (h : Good m cur) : ∀ x ∈ grow m cur r, Good m x := by
  induction r generalizing cur with
  | nil => rw [grow_nil]; intro x hx; rw [List.mem_singleton.1 hx]; exact h
  | cons y r ih =>
    by_cases hc : lastOf cur + 1 = y.1 ∧ (cur.length : Int) < m
    · rw [grow_on hc]; exact ih _ (h.more hc)
    · rw [grow_new hc]
      intro x hx
      rcases List.mem_cons.1 hx with rfl | hx
      · exact h
      · exact ih [y] (Good.one hm y) x hx
theorem told_good {m : Int} (hm : 1 ≤ m) (l : List E) : ∀ x ∈ told m l, Good m x := by
  cases l with
  | nil => intro x hx; cases hx
  | cons y r => exact grow_good hm [y] r (Good.one hm y)
/-- None can be longer: the next one does not go on, or it is full. -/
def Parted (m : Int) (a b : List E) : Prop := ¬ (lastOf a + 1 = (b.headD (0, 0)).1 ∧ (a.length : Int) < m)
theorem grow_head (m : Int) (cur r : List E) (hc : cur ≠ []) : ∃ t, (grow m cur r).headD [] = cur ++ t := by
  induction r generalizing cur with
  | nil => rw [grow_nil]; exact ⟨[], by simp⟩
  | cons x r ih =>
    by_cases h : lastOf cur + 1 = x.1 ∧ (cur.length : Int) < m
    · rw [grow_on h]
      obtain ⟨t, ht⟩ := ih (cur ++ [x]) (by simp)
      exact ⟨x :: t, by rw [ht]; simp⟩
    · rw [grow_new h]; exact ⟨[], by simp⟩
theorem grow_parted (m : Int) (cur r : List E) : ∀ (i : Nat) (a b : List E), (grow m cur r)[i]? = some a → (grow m cur r)[i + 1]? = some b → Parted m a b := by
  induction r generalizing cur with
  | nil => intro i a b _ h; rw [grow_nil] at h; simp at h
  | cons x r ih =>
    by_cases hc : lastOf cur + 1 = x.1 ∧ (cur.length : Int) < m
    · rw [grow_on hc]; exact ih _
    · rw [grow_new hc]
      intro i a b h1 h2
      cases i with
      | zero =>
        have e1 : cur = a := by simpa using h1
        have h2 : (grow m [x] r)[0]? = some b := by simpa [told] using h2
        obtain ⟨t, ht⟩ := grow_head m [x] r (by simp)
        have e : b = [x] ++ t := by
          rw [← ht, List.headD_eq_head?_getD, List.head?_eq_getElem?, h2]; rfl
        rw [← e1, e]
        exact hc
      | succ i => exact ih [x] i a b (by simpa [told] using h1) (by simpa [told] using h2)
theorem told_parted (m : Int) (l : List E) : ∀ (i : Nat) (a b : List E), (told m l)[i]? = some a → (told m l)[i + 1]? = some b → Parted m a b := by
  cases l with
  | nil => intro i a b h; simp [told] at h
  | cons x r => exact grow_parted m [x] r
/-- A piece of exceptions: where it begins, how long it is. -/
structure Pt (N : Nat) where
  at_ : Nat
  len : Nat
  pos : 1 ≤ len
  fits : at_ + len ≤ N
def cut (l : List E) (x : Pt l.length) : List E := (l.drop x.at_).take x.len
theorem cut_length (l : List E) (x : Pt l.length) : (cut l x).length = x.len := by
  have := x.fits
  unfold cut; rw [List.length_take, List.length_drop]; omega
theorem cut_get {l : List E} {x : Pt l.length} {i : Nat} {e : E} (h : (cut l x)[i]? = some e) : l[x.at_ + i]? = some e := by
  unfold cut at h
  rw [List.getElem?_take] at h
  split at h
  · rwa [List.getElem?_drop] at h
  · cases h
/-- In the midst of the document's answer. -/
def Doc (m : Int) (l : List E) (i : Nat) (L : List (List E)) : Prop := i ≤ l.length ∧ L.length ≤ i ∧
  ((i = 0 ∧ L = []) ∨ ∃ done cur, L = done ++ [cur] ∧ cur ≠ [] ∧ (cur.length : Int) ≤ m ∧ cur.length ≤ i ∧ 1 ≤ i ∧ lastOf cur = la l i ∧ told m l = done ++ grow m cur (l.drop i))
theorem Doc.start (m : Int) (l : List E) : Doc m l 0 [] := ⟨Nat.zero_le _, Nat.le_refl _, .inl ⟨rfl, rfl⟩⟩
theorem Doc.first {m : Int} {l : List E} {L : List (List E)} (hm : 1 ≤ m) (h : Doc m l 0 L) (hl : 0 < l.length) : L = [] ∧ Doc m l 1 [[l[0]]] := by
  obtain ⟨_, h2, h⟩ := h
  have e : L = [] := List.eq_nil_of_length_eq_zero (by omega)
  refine ⟨e, by omega, by simp, .inr ⟨[], [l[0]], rfl, by simp, by simpa using hm, by simp, by omega, ?_, ?_⟩⟩
  · rw [la_succ hl]; rfl
  · cases l with
    | nil => simp at hl
    | cons x r => rfl
theorem Doc.split {m : Int} {l : List E} {i : Nat} {L : List (List E)} (h : Doc m l i L) (hi : 1 ≤ i) : ∃ done cur, L = done ++ [cur] ∧ cur ≠ [] ∧ (cur.length : Int) ≤ m ∧ cur.length ≤ i ∧ lastOf cur = la l i ∧ told m l = done ++ grow m cur (l.drop i) := by
  rcases h.2.2 with ⟨h, _⟩ | ⟨d, c, h1, h2, h3, h4, _, h5, h6⟩
  · omega
  · exact ⟨d, c, h1, h2, h3, h4, h5, h6⟩
theorem Doc.more {m : Int} {l : List E} {i : Nat} {done : List (List E)} {cur : List E} (h : Doc m l i (done ++ [cur])) (hi : 1 ≤ i) (hl : i < l.length) (hc : la l i + 1 = l[i].1 ∧ (cur.length : Int) < m) :
    Doc m l (i + 1) (done ++ [cur ++ [l[i]]]) := by
  obtain ⟨d, c, h1, h2, h3, h4, h5, h6⟩ := h.split hi
  obtain ⟨rfl, hcc⟩ := List.append_inj' h1 rfl
  obtain rfl : cur = c := by simpa using hcc
  have h2' := h.2.1
  refine ⟨by omega, by simp at h2' ⊢; omega, .inr ⟨done, cur ++ [l[i]], rfl, by simp, by simp; omega, by simp; omega, by omega, ?_, ?_⟩⟩
  · rw [lastOf_snoc, la_succ hl]
  · rw [h6, List.drop_eq_getElem_cons hl, grow_on ⟨by rw [h5]; exact hc.1, hc.2⟩]
theorem Doc.new {m : Int} {l : List E} {i : Nat} {done : List (List E)} {cur : List E} (hm : 1 ≤ m) (h : Doc m l i (done ++ [cur])) (hi : 1 ≤ i) (hl : i < l.length) (hc : ¬ (la l i + 1 = l[i].1 ∧ (cur.length : Int) < m)) :
    Doc m l (i + 1) (done ++ [cur] ++ [[l[i]]]) := by
  obtain ⟨d, c, h1, h2, h3, h4, h5, h6⟩ := h.split hi
  obtain ⟨rfl, hcc⟩ := List.append_inj' h1 rfl
  obtain rfl : cur = c := by simpa using hcc
  have h2' := h.2.1
  refine ⟨by omega, by simp at h2' ⊢; omega, .inr ⟨done ++ [cur], [l[i]], rfl, by simp, by simpa using hm, by simp, by omega, ?_, ?_⟩⟩
  · rw [la_succ hl]; rfl
  · rw [h6, List.drop_eq_getElem_cons hl, grow_new (by rw [h5]; exact hc)]
    simp [told]
theorem Doc.done {m : Int} {l : List E} {L : List (List E)} (h : Doc m l l.length L) : L = told m l := by
  rcases h.2.2 with ⟨h0, h1⟩ | ⟨d, c, h1, _, _, _, _, _, h6⟩
  · have : l = [] := List.eq_nil_of_length_eq_zero h0
    rw [h1, this, told_nil]
  · rw [h6, h1, List.drop_length, grow_nil]
end Rn
end Go.Proofs.Ytaedgifboepgdaa
