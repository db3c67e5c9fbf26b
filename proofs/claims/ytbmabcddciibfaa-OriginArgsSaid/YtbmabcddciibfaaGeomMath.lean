/- Chunks, pieces, pages and rooms in plain words. -/
namespace Go.Proofs.Ytbmabcddciibfaa
namespace Em
set_option linter.unusedVariables false
/-- May a geometry be? -/
def rightB (o c : Int) : Bool := decide (1 ≤ o) && (decide (o ≤ 1048576) && (decide (1 ≤ c) && decide (c ≤ 128)))
theorem right_iff (o c : Int) : rightB o c = true ↔ 1 ≤ o ∧ o ≤ 1048576 ∧ 1 ≤ c ∧ c ≤ 128 := by
  unfold rightB; simp
theorem right_nat {o c : Int} (h : rightB o c = true) : ∃ a b : Nat, o = (a : Int) ∧ c = (b : Int) ∧ 1 ≤ a ∧ a ≤ 1048576 ∧ 1 ≤ b ∧ b ≤ 128 := by
  obtain ⟨h1, h2, h3, h4⟩ := (right_iff o c).1 h
  exact ⟨o.toNat, c.toNat, by omega, by omega, by omega, by omega, by omega, by omega⟩

/-- How many of a size n things make. -/
def parts (n s : Nat) : Nat := n / s + (if n % s = 0 then 0 else 1)
theorem parts_mul {n s : Nat} (hs : 0 < s) : n ≤ parts n s * s := by
  have h := Nat.div_add_mod n s
  have hm := Nat.mod_lt n hs
  unfold parts
  rw [Nat.mul_comm] at h
  by_cases e : n % s = 0
  · rw [if_pos e]; simp; omega
  · rw [if_neg e, Nat.add_mul]; omega
theorem parts_lt {n s k : Nat} (hs : 0 < s) : k < parts n s ↔ k * s < n := by
  have h := Nat.div_add_mod n s
  have hm := Nat.mod_lt n hs
  rw [Nat.mul_comm] at h
  have hp := parts_mul (n := n) hs
  constructor
  · intro hk
    unfold parts at hk
    by_cases e : n % s = 0
    · rw [if_pos e] at hk
      have : (k + 1) * s ≤ n / s * s := Nat.mul_le_mul_right _ (by omega)
      rw [Nat.add_mul] at this; omega
    · rw [if_neg e] at hk
      have : k * s ≤ n / s * s := Nat.mul_le_mul_right _ (by omega)
      omega
  · intro hk
    apply Nat.lt_of_mul_lt_mul_right (a := s)
    omega
theorem parts_le (n s : Nat) : parts n s ≤ n := by
  unfold parts
  have h1 : n / s ≤ n := Nat.div_le_self n s
  by_cases e : n % s = 0
  · rw [if_pos e]; exact h1
  · rw [if_neg e]
    rcases Nat.eq_zero_or_pos s with h | h
    · subst h; simp at e ⊢; omega
    · by_cases h2 : s = 1
      · subst h2; omega
      · have hn : 0 < n := by
          rcases Nat.eq_zero_or_pos n with h3 | h3
          · subst h3; simp at e
          · exact h3
        have := Nat.div_lt_self hn (by omega : 1 < s)
        omega
/-- The first number of parts that is enough is that many. -/
theorem parts_unique {n s k : Nat} (hs : 0 < s) (h1 : n ≤ k * s) (h2 : ∀ j, j < k → j * s < n) : k = parts n s := by
  rcases Nat.lt_trichotomy k (parts n s) with h | h | h
  · have := (parts_lt hs).1 h; omega
  · exact h
  · have := h2 _ h
    have := parts_mul (n := n) hs
    omega

/-- A piece: a chunk, a place in it, how many. -/
structure Pc where
  c : Nat
  f : Nat
  n : Nat
/-- The pieces from next up to stop. -/
def cut (c : Nat) : Nat → Nat → Nat → List Pc
  | 0, _, _ => []
  | k + 1, next, stop => if next < stop then ⟨next / c, next % c, min (c - next % c) (stop - next)⟩ :: cut c k (next + min (c - next % c) (stop - next)) stop else []
theorem cut_stop (c k next : Nat) : cut c k next next = [] := by
  cases k with
  | zero => rfl
  | succ k => unfold cut; rw [if_neg (by omega)]
theorem cut_fuel {c : Nat} (hc : 0 < c) : ∀ (k j next stop : Nat), stop - next ≤ k → stop - next ≤ j → cut c k next stop = cut c j next stop := by
  intro k
  induction k with
  | zero =>
    intro j next stop h1 h2
    cases j with
    | zero => rfl
    | succ j => unfold cut; rw [if_neg (by omega)]
  | succ k ih =>
    intro j next stop h1 h2
    cases j with
    | zero => unfold cut; rw [if_neg (by omega)]
    | succ j =>
      by_cases h : next < stop
      · have hm := Nat.mod_lt next hc
        unfold cut
        rw [if_pos h, if_pos h, ih j (next + min (c - next % c) (stop - next)) stop (by omega) (by omega)]
      · unfold cut; rw [if_neg h, if_neg h]
theorem cut_length (c : Nat) : ∀ (k next stop : Nat), (cut c k next stop).length ≤ k := by
  intro k
  induction k with
  | zero => intro n s; simp [cut]
  | succ k ih =>
    intro next stop
    unfold cut
    by_cases h : next < stop
    · rw [if_pos h, List.length_cons]; have := ih (next + min (c - next % c) (stop - next)) stop; omega
    · rw [if_neg h]; simp
/-- The pieces of n sectors from a on. -/
def split (c a n : Nat) : List Pc := cut c n a (a + n)

/-- The last one has one more. -/
def bump : List Pc → List Pc
  | [] => []
  | [x] => [⟨x.c, x.f, x.n + 1⟩]
  | x :: y :: l => x :: bump (y :: l)
theorem bump_cons (x : Pc) {l : List Pc} (h : l ≠ []) : bump (x :: l) = x :: bump l := by
  cases l with
  | nil => exact (h rfl).elim
  | cons y l => rfl
theorem bump_snoc (l : List Pc) (x : Pc) : bump (l ++ [x]) = l ++ [⟨x.c, x.f, x.n + 1⟩] := by
  induction l with
  | nil => rfl
  | cons y l ih => rw [List.cons_append, bump_cons y (by simp), ih]; rfl
theorem mod_in {next c m : Nat} (h : next % c + m < c) : (next + m) % c = next % c + m := by
  rw [Nat.add_mod, Nat.mod_eq_of_lt (by omega : m < c), Nat.mod_eq_of_lt h]
theorem mod_full {next c m : Nat} (hc : 0 < c) (h : next % c + m = c) : (next + m) % c = 0 := by
  rw [Nat.add_mod]
  by_cases e : m < c
  · rw [Nat.mod_eq_of_lt e, h, Nat.mod_self]
  · have : m = c := by omega
    rw [this, Nat.mod_self]
    have : next % c = 0 := by omega
    rw [this]; simp
theorem cut_succ {c : Nat} (hc : 0 < c) : ∀ (k next stop : Nat), next ≤ stop → stop - next ≤ k →
    cut c (k + 1) next (stop + 1) = if next < stop ∧ stop % c ≠ 0 then bump (cut c k next stop) else cut c k next stop ++ [⟨stop / c, stop % c, 1⟩] := by
  intro k
  induction k with
  | zero =>
    intro next stop h1 h2
    have e : next = stop := by omega
    subst e
    have hm := Nat.mod_lt next hc
    rw [if_neg (by omega)]
    unfold cut
    rw [if_pos (by omega), show min (c - next % c) (next + 1 - next) = 1 by omega]
    rfl
  | succ k ih =>
    intro next stop h1 h2
    have hm := Nat.mod_lt next hc
    by_cases e : next = stop
    · subst e
      rw [if_neg (by omega), cut_stop]
      unfold cut
      rw [if_pos (by omega), show min (c - next % c) (next + 1 - next) = 1 by omega, cut_stop]
      rfl
    · have hlt : next < stop := by omega
      by_cases h3 : stop - next < c - next % c
      · have hs : stop % c = next % c + (stop - next) := by
          have := mod_in (next := next) (c := c) (m := stop - next) (by omega)
          rwa [show next + (stop - next) = stop by omega] at this
        rw [if_pos ⟨hlt, by omega⟩]
        unfold cut
        rw [if_pos (by omega), if_pos hlt, show min (c - next % c) (stop + 1 - next) = stop + 1 - next by omega, show min (c - next % c) (stop - next) = stop - next by omega,
          show next + (stop + 1 - next) = stop + 1 by omega, show next + (stop - next) = stop by omega, cut_stop, cut_stop]
        show _ = [Pc.mk (next / c) (next % c) (stop - next + 1)]
        rw [show stop + 1 - next = stop - next + 1 by omega]
      · have hle : next + (c - next % c) ≤ stop := by omega
        have h4 := ih (next + (c - next % c)) stop hle (by omega)
        have e1 : cut c (k + 1 + 1) next (stop + 1) = ⟨next / c, next % c, c - next % c⟩ :: cut c (k + 1) (next + (c - next % c)) (stop + 1) := by
          rw [show cut c (k + 1 + 1) next (stop + 1) = if next < stop + 1 then ⟨next / c, next % c, min (c - next % c) (stop + 1 - next)⟩ :: cut c (k + 1) (next + min (c - next % c) (stop + 1 - next)) (stop + 1) else [] from rfl]
          rw [if_pos (by omega), show min (c - next % c) (stop + 1 - next) = c - next % c by omega]
        have e2 : cut c (k + 1) next stop = ⟨next / c, next % c, c - next % c⟩ :: cut c k (next + (c - next % c)) stop := by
          rw [show cut c (k + 1) next stop = if next < stop then ⟨next / c, next % c, min (c - next % c) (stop - next)⟩ :: cut c k (next + min (c - next % c) (stop - next)) stop else [] from rfl]
          rw [if_pos (by omega), show min (c - next % c) (stop - next) = c - next % c by omega]
        rw [e1, e2, h4]
        by_cases h5 : next + (c - next % c) < stop
        · by_cases h6 : stop % c ≠ 0
          · rw [if_pos ⟨h5, h6⟩, if_pos ⟨hlt, h6⟩]
            refine (bump_cons _ ?_).symm
            cases k with
            | zero => omega
            | succ k => unfold cut; rw [if_pos h5]; simp
          · rw [if_neg (fun h => h6 h.2), if_neg (fun h => h6 h.2)]; rfl
        · have e3 : next + (c - next % c) = stop := by omega
          have hs : stop % c = 0 := by rw [← e3]; exact mod_full hc (by omega)
          rw [if_neg (fun h => h5 h.1), if_neg (fun h => h.2 hs)]; rfl
/-- Sector by sector. -/
theorem split_succ {c : Nat} (hc : 0 < c) (a i : Nat) : split c a (i + 1) = if 0 < i ∧ (a + i) % c ≠ 0 then bump (split c a i) else split c a i ++ [⟨(a + i) / c, (a + i) % c, 1⟩] := by
  have h := cut_succ hc i a (a + i) (by omega) (by omega)
  unfold split
  rw [show a + (i + 1) = a + i + 1 by omega, h]
  by_cases e : 0 < i ∧ (a + i) % c ≠ 0
  · rw [if_pos ⟨by omega, e.2⟩, if_pos e]
  · rw [if_neg (fun h => e ⟨by omega, h.2⟩), if_neg e]
theorem split_length (c a n : Nat) : (split c a n).length ≤ n := cut_length c n a (a + n)

/-- In pieces: what a list of pieces from next on, in chunks of c, is. -/
theorem cut_get {c : Nat} (hc : 0 < c) : ∀ (k next stop : Nat), next ≤ stop → stop - next ≤ k → ∀ (i : Nat) (x : Pc), (cut c k next stop)[i]? = some x →
    ∃ at_, at_ = next + (((cut c k next stop).take i).map Pc.n).sum ∧ x.c = at_ / c ∧ x.f = at_ % c ∧ at_ < stop ∧ x.n = min (c - at_ % c) (stop - at_) ∧ (0 < i → at_ % c = 0) := by
  intro k
  induction k with
  | zero => intro next stop _ _ i x h; simp [cut] at h
  | succ k ih =>
    intro next stop h1 h2 i x h
    have hm := Nat.mod_lt next hc
    by_cases hlt : next < stop
    · have e2 : cut c (k + 1) next stop = ⟨next / c, next % c, min (c - next % c) (stop - next)⟩ :: cut c k (next + min (c - next % c) (stop - next)) stop := by
        rw [show cut c (k + 1) next stop = if next < stop then ⟨next / c, next % c, min (c - next % c) (stop - next)⟩ :: cut c k (next + min (c - next % c) (stop - next)) stop else [] from rfl, if_pos hlt]
      rw [e2] at h ⊢
      cases i with
      | zero =>
        simp at h
        subst h
        exact ⟨next, by simp, rfl, rfl, hlt, rfl, fun h => by omega⟩
      | succ i =>
        have h' : (cut c k (next + min (c - next % c) (stop - next)) stop)[i]? = some x := by simpa using h
        obtain ⟨at_, e, a1, a2, a3, a4, a5⟩ := ih (next + min (c - next % c) (stop - next)) stop (by omega) (by omega) i x h'
        refine ⟨at_, by rw [e]; simp; omega, a1, a2, a3, a4, fun _ => ?_⟩
        by_cases hi : 0 < i
        · exact a5 hi
        · have hi0 : i = 0 := by omega
          subst hi0
          have e' : at_ = next + min (c - next % c) (stop - next) := by rw [e]; simp
          have hfull : min (c - next % c) (stop - next) = c - next % c := by omega
          rw [e', hfull]
          exact mod_full hc (by omega)
    · rw [show cut c (k + 1) next stop = if next < stop then ⟨next / c, next % c, min (c - next % c) (stop - next)⟩ :: cut c k (next + min (c - next % c) (stop - next)) stop else [] from rfl, if_neg hlt] at h
      simp at h
theorem cut_sum {c : Nat} (hc : 0 < c) : ∀ (k next stop : Nat), next ≤ stop → stop - next ≤ k → next + ((cut c k next stop).map Pc.n).sum = stop := by
  intro k
  induction k with
  | zero => intro next stop h1 h2; simp [cut]; omega
  | succ k ih =>
    intro next stop h1 h2
    have hm := Nat.mod_lt next hc
    by_cases hlt : next < stop
    · unfold cut
      rw [if_pos hlt]
      have := ih (next + min (c - next % c) (stop - next)) stop (by omega) (by omega)
      simp; omega
    · unfold cut; rw [if_neg hlt]; simp; omega

/-- A store's sectors; how many chunks it has room for. -/
def size (c n : Nat) : Nat := 1 + parts n 13 + n * c
def room (c s : Nat) : Nat := (s - 1) / (1 + 13 * c) * 13 + ((s - 1) % (1 + 13 * c) - 1) / c
theorem parts_13 (n : Nat) : parts n 13 = (n + 12) / 13 := by unfold parts; split <;> omega
theorem size_mono {c a b : Nat} (h : a ≤ b) : size c a ≤ size c b := by
  unfold size
  rw [parts_13, parts_13]
  have := Nat.mul_le_mul_right c h
  omega
theorem size_lt {c a : Nat} (hc : 0 < c) : size c a < size c (a + 1) := by
  unfold size
  rw [parts_13, parts_13, Nat.add_mul]
  omega
/-- Of any sectors the room is the greatest that fits. -/
theorem room_fits {c s : Nat} (hc : 0 < c) : (0 < room c s → size c (room c s) ≤ s) ∧ s < size c (room c s + 1) := by
  obtain ⟨F, hF⟩ : ∃ F, F = 1 + 13 * c := ⟨_, rfl⟩
  obtain ⟨b, hb⟩ : ∃ b, b = s - 1 := ⟨_, rfl⟩
  obtain ⟨q, hq⟩ : ∃ q, q = b / F := ⟨_, rfl⟩
  obtain ⟨r, hr⟩ : ∃ r, r = b % F := ⟨_, rfl⟩
  obtain ⟨t, ht⟩ : ∃ t, t = (r - 1) / c := ⟨_, rfl⟩
  have hFp : 0 < F := by omega
  have hdm := Nat.div_add_mod b F
  rw [← hq, ← hr] at hdm
  have hrl : r < F := by rw [hr]; exact Nat.mod_lt _ hFp
  have htm := Nat.div_add_mod (r - 1) c
  rw [← ht] at htm
  have htl : (r - 1) % c < c := Nat.mod_lt _ hc
  have e : room c s = q * 13 + t := by unfold room; rw [← hF, ← hb, ← hq, ← hr, ← ht]
  rw [e]
  have hFq : F * q = q + 13 * (c * q) := by rw [hF, Nat.add_mul, Nat.one_mul, Nat.mul_assoc]
  have ht13 : t ≤ 13 := by
    rcases Nat.lt_or_ge 13 t with h | h
    · have : c * 14 ≤ c * t := Nat.mul_le_mul_left c h
      omega
    · exact h
  have ht13' : t = 13 → r - 1 = 13 * c := by
    intro h
    rw [h] at htm
    omega
  have e1 : (q * 13 + t) * c = 13 * (c * q) + c * t := by rw [Nat.add_mul, Nat.mul_comm t c, Nat.mul_right_comm, Nat.mul_comm q c, Nat.mul_comm]
  have e2 : (q * 13 + t + 1) * c = 13 * (c * q) + c * t + c := by rw [Nat.add_mul, e1, Nat.one_mul]
  have hct : t = 0 → c * t = 0 := fun h => by rw [h, Nat.mul_zero]
  constructor
  · intro hpos
    unfold size
    rw [parts_13, e1]
    rcases Nat.eq_zero_or_pos t with h0 | h0
    · have := hct h0
      omega
    · have h1 : c * 1 ≤ c * t := Nat.mul_le_mul_left c h0
      omega
  · unfold size
    rw [parts_13, e2]
    omega
theorem size_le {c a b : Nat} (hc : 0 < c) : size c a ≤ size c b ↔ a ≤ b := by
  constructor
  · intro h
    rcases Nat.lt_or_ge b a with h1 | h1
    · have h2 := size_lt (a := b) hc
      have h3 := size_mono (c := c) (a := b + 1) (b := a) h1
      omega
    · exact h1
  · exact size_mono
theorem room_unique {c s n : Nat} (hc : 0 < c) (h1 : 0 < n → size c n ≤ s) (h2 : s < size c (n + 1)) : room c s = n := by
  obtain ⟨a1, a2⟩ := room_fits (c := c) (s := s) hc
  rcases Nat.lt_trichotomy (room c s) n with h | h | h
  · have := h1 (by omega)
    have := size_mono (c := c) (a := room c s + 1) (b := n) h
    omega
  · exact h
  · have := a1 (by omega)
    have := size_mono (c := c) (a := n + 1) (b := room c s) h
    omega
theorem room_size {c n : Nat} (hc : 0 < c) : room c (size c n) = n := room_unique hc (fun _ => Nat.le_refl _) (size_lt hc)
theorem room_less {c n : Nat} (hc : 0 < c) (hn : 0 < n) : room c (size c n - 1) = n - 1 := by
  have h := size_lt (c := c) (a := n - 1) hc
  rw [show n - 1 + 1 = n by omega] at h
  exact room_unique hc (fun _ => by omega) (by rw [show n - 1 + 1 = n by omega]; omega)
end Em
end Go.Proofs.Ytbmabcddciibfaa