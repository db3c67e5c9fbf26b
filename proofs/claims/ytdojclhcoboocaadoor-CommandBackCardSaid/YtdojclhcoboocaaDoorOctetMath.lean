/- Plain mathematics of numbers as bytes: no program is named. -/
import Derived.KernelRfl
namespace Go.Proofs.YtdojclhcoboocaaDoor
namespace Om

/-- A list of bytes as Go's string. Not reducible: an atom to the walk. -/
def B (l : List UInt8) : ByteArray := ⟨l.toArray⟩
def L (s : ByteArray) : List UInt8 := s.data.toList
theorem L_B (l : List UInt8) : L (B l) = l := by simp [L, B]
theorem B_L (s : ByteArray) : B (L s) = s := by cases s; simp [L, B]
theorem B_size (l : List UInt8) : (B l).size = l.length := rfl
theorem L_length (s : ByteArray) : (L s).length = s.size := rfl
theorem B_append (a b : List UInt8) : B a ++ B b = B (a ++ b) := by
  apply ByteArray.ext
  simp [B]
theorem B_nil : B [] = ⟨#[]⟩ := rfl
theorem extract_end (s : ByteArray) (k : Nat) : s.extract k s.size = B ((L s).drop k) := by
  apply ByteArray.ext
  rw [ByteArray.data_extract]
  apply Array.ext'
  rw [Array.toList_extract, List.extract_eq_take_drop]
  show (s.data.toList.drop k).take (s.size - k) = s.data.toList.drop k
  apply List.take_of_length_le
  rw [List.length_drop]
  exact Nat.le_refl _
theorem extract_front (s : ByteArray) (k : Nat) : s.extract 0 k = B ((L s).take k) := by
  apply ByteArray.ext
  rw [ByteArray.data_extract]
  apply Array.ext'
  rw [Array.toList_extract, List.extract_eq_take_drop]
  rfl

/-- May this be a size? -/
def sizeOk (z : Int) : Bool := decide (0 ≤ z ∧ z ≤ 8)
theorem sizeOk_iff (z : Int) : sizeOk z = true ↔ 0 ≤ z ∧ z ≤ 8 := by simp [sizeOk]
def sizesOk (zs : List Int) : Bool := zs.all sizeOk
/-- Has the number no more than so many bytes? -/
def fits (n k : Nat) : Bool := decide (n < 256 ^ k)

/-- The lowest so many bytes of a number, the lowest first. -/
def low (n k : Nat) : List UInt8 := (List.range k).map fun i => UInt8.ofNat (n / 256 ^ i)
theorem low_length (n k : Nat) : (low n k).length = k := by simp [low]
theorem low_succ (n k : Nat) : low n (k + 1) = low n k ++ [UInt8.ofNat (n / 256 ^ k)] := by simp [low, List.range_succ]
theorem low_cons (n k : Nat) : low n (k + 1) = UInt8.ofNat n :: low (n / 256) k := by
  unfold low
  rw [List.range_succ_eq_map]
  simp only [List.map_cons, List.map_map, Nat.pow_zero, Nat.div_one]
  congr 1
  apply List.map_congr_left
  intro i _
  simp only [Function.comp, Nat.succ_eq_add_one]
  rw [Nat.pow_succ', Nat.div_div_eq_div_mul]

/-- The number of some bytes, the lowest first. -/
def num : List UInt8 → Nat
  | [] => 0
  | b :: r => b.toNat + 256 * num r
theorem num_lt (l : List UInt8) : num l < 256 ^ l.length := by
  induction l with
  | nil => simp [num]
  | cons b r ih =>
    have := b.toNat_lt
    simp only [num, List.length_cons, Nat.pow_succ]
    omega
theorem num_append (a b : List UInt8) : num (a ++ b) = num a + 256 ^ a.length * num b := by
  induction a with
  | nil => simp [num]
  | cons c r ih =>
    simp only [List.cons_append, num, ih, List.length_cons, Nat.pow_succ]
    rw [Nat.mul_add, ← Nat.mul_assoc, Nat.mul_comm 256 (256 ^ r.length)]
    omega
theorem num_snoc (a : List UInt8) (b : UInt8) : num (a ++ [b]) = num a + 256 ^ a.length * b.toNat := by
  rw [num_append]; simp [num]
theorem num_low (n k : Nat) : num (low n k) = n % 256 ^ k := by
  induction k generalizing n with
  | zero => simp [low, num, Nat.mod_one]
  | succ k ih =>
    rw [low_cons, num, ih, Nat.pow_succ', Nat.mod_mul]
    simp
theorem low_num (l : List UInt8) : low (num l) l.length = l := by
  induction l with
  | nil => rfl
  | cons b r ih =>
    rw [List.length_cons, low_cons, num]
    have e : (b.toNat + 256 * num r) / 256 = num r := by have := b.toNat_lt; omega
    rw [e, ih]
    congr 1
    apply UInt8.toNat_inj.1
    rw [UInt8.toNat_ofNat']
    have := b.toNat_lt
    omega

/-- How many bytes the first k sizes take. -/
def off (zs : List Int) (k : Nat) : Nat := ((zs.take k).map Int.toNat).sum
theorem off_zero (zs : List Int) : off zs 0 = 0 := by simp [off]
theorem off_succ (zs : List Int) (k : Nat) (h : k < zs.length) : off zs (k + 1) = off zs k + (zs.getD k 0).toNat := by
  unfold off
  rw [List.take_succ_eq_append_getElem h, List.map_append, List.sum_append]
  simp [List.getElem?_eq_getElem h]
theorem off_mono (zs : List Int) (j k : Nat) (h : j ≤ k) : off zs j ≤ off zs k := by
  induction k with
  | zero => have : j = 0 := by omega
            subst this; exact Nat.le_refl _
  | succ k ih =>
    by_cases hj : j = k + 1
    · subst hj; exact Nat.le_refl _
    · have := ih (by omega)
      by_cases hk : k < zs.length
      · rw [off_succ zs k hk]; omega
      · have e : off zs (k + 1) = off zs k := by
          unfold off
          rw [List.take_of_length_le (show zs.length ≤ k + 1 by omega), List.take_of_length_le (show zs.length ≤ k by omega)]
        omega

/-- The bytes of the first k numbers, of these sizes. -/
def joined (zs : List Int) (ls : List Nat) (k : Nat) : List UInt8 := (List.range k).flatMap fun i => low (ls.getD i 0) (zs.getD i 0).toNat
theorem joined_zero (zs : List Int) (ls : List Nat) : joined zs ls 0 = [] := by simp [joined]
theorem joined_succ (zs : List Int) (ls : List Nat) (k : Nat) : joined zs ls (k + 1) = joined zs ls k ++ low (ls.getD k 0) (zs.getD k 0).toNat := by
  simp [joined, List.range_succ]
theorem joined_length (zs : List Int) (ls : List Nat) (k : Nat) (h : k ≤ zs.length) : (joined zs ls k).length = off zs k := by
  induction k with
  | zero => simp [joined, off]
  | succ k ih => rw [joined_succ, List.length_append, ih (by omega), low_length, off_succ zs k (by omega)]
def fitAll (zs : List Int) (ls : List Nat) (k : Nat) : Bool := (List.range k).all fun i => fits (ls.getD i 0) (zs.getD i 0).toNat
theorem fitAll_iff (zs : List Int) (ls : List Nat) (k : Nat) : fitAll zs ls k = true ↔ ∀ i, i < k → ls.getD i 0 < 256 ^ (zs.getD i 0).toNat := by
  simp [fitAll, fits]
theorem sizes_at (zs : List Int) (h : sizesOk zs = true) (i : Nat) : 0 ≤ zs.getD i 0 ∧ zs.getD i 0 ≤ 8 := by
  by_cases hi : i < zs.length
  · have := List.all_eq_true.1 h (zs[i]) (List.getElem_mem hi)
    rw [sizeOk_iff] at this
    simpa [List.getElem?_eq_getElem hi] using this
  · simp [List.getElem?_eq_none (show zs.length ≤ i by omega)]
theorem off_le (zs : List Int) (h : sizesOk zs = true) (k : Nat) : off zs k ≤ 8 * k := by
  induction k with
  | zero => simp [off]
  | succ k ih =>
    by_cases hk : k < zs.length
    · have := sizes_at zs h k
      rw [off_succ zs k hk]; omega
    · have e : off zs (k + 1) = off zs k := by
        unfold off
        rw [List.take_of_length_le (show zs.length ≤ k + 1 by omega), List.take_of_length_le (show zs.length ≤ k by omega)]
      omega

/-- The number at place i of what is got from s. -/
def at_ (s : List UInt8) (zs : List Int) (i : Nat) : Nat := num ((s.drop (off zs i)).take (zs.getD i 0).toNat)
theorem at_lt (s : List UInt8) (zs : List Int) (h : sizesOk zs = true) (i : Nat) : at_ s zs i < 18446744073709551616 := by
  have h1 := num_lt ((s.drop (off zs i)).take (zs.getD i 0).toNat)
  have h2 : ((s.drop (off zs i)).take (zs.getD i 0).toNat).length ≤ 8 := by
    have := sizes_at zs h i
    rw [List.length_take]; omega
  have h3 : 256 ^ ((s.drop (off zs i)).take (zs.getD i 0).toNat).length ≤ 256 ^ 8 := Nat.pow_le_pow_right (by omega) h2
  unfold at_
  omega

/-- What was joined is got. -/
theorem at_joined (zs : List Int) (ls : List Nat) (n : Nat) (t : List UInt8) (hn : n ≤ zs.length) (hf : fitAll zs ls n = true) (i : Nat) (hi : i < n) : at_ (joined zs ls n ++ t) zs i = ls.getD i 0 := by
  have hsplit : ∀ m, i < m → m ≤ n → ∃ u, joined zs ls m = joined zs ls i ++ (low (ls.getD i 0) (zs.getD i 0).toNat ++ u) := by
    intro m him hmn
    induction m with
    | zero => omega
    | succ m ih =>
      by_cases e : i = m
      · subst e; exact ⟨[], by rw [joined_succ]; simp⟩
      · obtain ⟨u, hu⟩ := ih (by omega) (by omega)
        exact ⟨u ++ low (ls.getD m 0) (zs.getD m 0).toNat, by rw [joined_succ, hu]; simp [List.append_assoc]⟩
  obtain ⟨u, hu⟩ := hsplit n hi (Nat.le_refl _)
  unfold at_
  rw [hu, ← joined_length zs ls i (by omega), List.append_assoc, List.drop_left, List.append_assoc, List.take_append_of_le_length (by rw [low_length]; exact Nat.le_refl _)]
  rw [List.take_of_length_le (by rw [low_length]; exact Nat.le_refl _), num_low, Nat.mod_eq_of_lt ((fitAll_iff zs ls n).1 hf i hi)]
theorem drop_joined (zs : List Int) (ls : List Nat) (n : Nat) (t : List UInt8) (hn : n ≤ zs.length) : (joined zs ls n ++ t).drop (off zs n) = t := by
  rw [← joined_length zs ls n hn, List.drop_left]

/-- What is got is joined to what it was got from. -/
theorem joined_at (s : List UInt8) (zs : List Int) (ms : List Nat) (n : Nat) (hn : n ≤ zs.length) (hs : off zs n ≤ s.length) (hm : ∀ i, i < n → ms.getD i 0 = at_ s zs i) : joined zs ms n = s.take (off zs n) := by
  induction n with
  | zero => simp [joined, off]
  | succ k ih =>
    have hk : k < zs.length := by omega
    have ho := off_succ zs k hk
    rw [joined_succ, ih (by omega) (by omega) (fun i hi => hm i (by omega)), hm k (by omega)]
    have hl : ((s.drop (off zs k)).take (zs.getD k 0).toNat).length = (zs.getD k 0).toNat := by
      rw [List.length_take, List.length_drop]; omega
    have e : low (at_ s zs k) (zs.getD k 0).toNat = (s.drop (off zs k)).take (zs.getD k 0).toNat := by
      have h := low_num ((s.drop (off zs k)).take (zs.getD k 0).toNat)
      rw [hl] at h
      exact h
    rw [e, ho, List.take_add]
theorem fit_at (s : List UInt8) (zs : List Int) (ms : List Nat) (n : Nat) (hm : ∀ i, i < n → ms.getD i 0 = at_ s zs i) : fitAll zs ms n = true := by
  rw [fitAll_iff]
  intro i hi
  rw [hm i hi]
  unfold at_
  refine Nat.lt_of_lt_of_le (num_lt _) (Nat.pow_le_pow_right (by omega) ?_)
  rw [List.length_take]
  omega

/-- A number without its lowest k bytes. -/
def sh (n k : Nat) : Nat := n / 256 ^ k
theorem sh_int (n k : Nat) : (n : Int) / 2 ^ (8 * k) = (sh n k : Int) := by
  unfold sh
  rw [Int.natCast_ediv]
  have : (256 : Nat) ^ k = 2 ^ (8 * k) := by rw [Nat.pow_mul]
  rw [this]
  simp
theorem sh_zero (n k : Nat) (h : n < 256 ^ k) : sh n k = 0 := Nat.div_eq_of_lt h
theorem sh_pos (n k : Nat) (h : ¬ n < 256 ^ k) : 0 < sh n k := Nat.div_pos (by omega) (Nat.pow_pos (by omega))
end Om
end Go.Proofs.YtdojclhcoboocaaDoor
