/- Part 2 of the contracts and of the plain mathematics that the proof of the law rests on: OctetMath, DiskMath, Fr, DiskMem, DiskSmall. -/
import Derived.KernelRfl
import Derived.Test.YtbmabcddciibfaaGreatProg
import Derived.WalkKit
import Derived.OwnWalk
import Derived.Below
import Derived.Laws.Rows
import Derived.Laws.OwnMore
import Derived.Laws.NewBlocks
import Derived.Laws.CopyOwn
import Derived.Lib.Hide
import Derived.Maps.OwnSet
import Derived.Deep.Draws
import Derived.Outline
import Derived.Lib.BufferWrite
import Derived.WalkSpells
namespace Go.Proofs.YtbmabcddciibfaaGreat
namespace Om
def B (l : List UInt8) : ByteArray := ⟨l.toArray⟩
def L (s : ByteArray) : List UInt8 := s.data.toList
theorem L_B (l : List UInt8) : L (B l) = l := by simp [L, B]
theorem B_L (s : ByteArray) : B (L s) = s := by cases s; simp [L, B]
theorem B_size (l : List UInt8) : (B l).size = l.length := rfl
theorem L_length (s : ByteArray) : (L s).length = s.size := rfl
theorem B_append (a b : List UInt8) : B a ++ B b = B (a ++ b) := by
  apply ByteArray.ext
  simp [B]
theorem extract_end (s : ByteArray) (k : Nat) : s.extract k s.size = B ((L s).drop k) := by
  apply ByteArray.ext
  rw [ByteArray.data_extract]
  apply Array.ext'
  rw [Array.toList_extract, List.extract_eq_take_drop]
  show (s.data.toList.drop k).take (s.size - k) = s.data.toList.drop k
  apply List.take_of_length_le
  rw [List.length_drop]
  exact Nat.le_refl _
theorem extract_front (s : ByteArray) (k : Nat) : s.extract 0 k = B ((L s).take k) := by
  apply ByteArray.ext
  rw [ByteArray.data_extract]
  apply Array.ext'
  rw [Array.toList_extract, List.extract_eq_take_drop]
  rfl
def sizeOk (z : Int) : Bool := decide (0 ≤ z ∧ z ≤ 8)
theorem sizeOk_iff (z : Int) : sizeOk z = true ↔ 0 ≤ z ∧ z ≤ 8 := by simp [sizeOk]
def sizesOk (zs : List Int) : Bool := zs.all sizeOk
def fits (n k : Nat) : Bool := decide (n < 256 ^ k)
def low (n k : Nat) : List UInt8 := (List.range k).map fun i => UInt8.ofNat (n / 256 ^ i)
theorem low_length (n k : Nat) : (low n k).length = k := by simp [low]
theorem low_succ (n k : Nat) : low n (k + 1) = low n k ++ [UInt8.ofNat (n / 256 ^ k)] := by simp [low, List.range_succ]
theorem low_cons (n k : Nat) : low n (k + 1) = UInt8.ofNat n :: low (n / 256) k := by
  unfold low
  rw [List.range_succ_eq_map]
  simp only [List.map_cons, List.map_map, Nat.pow_zero, Nat.div_one]
  congr 1
  apply List.map_congr_left
  intro i _
  simp only [Function.comp, Nat.succ_eq_add_one]
  rw [Nat.pow_succ', Nat.div_div_eq_div_mul]
def num : List UInt8 → Nat
  | [] => 0
  | b :: r => b.toNat + 256 * num r
theorem num_lt (l : List UInt8) : num l < 256 ^ l.length := by
  induction l with
  | nil => simp [num]
  | cons b r ih =>
    have := b.toNat_lt
    simp only [num, List.length_cons, Nat.pow_succ]
    omega
theorem num_append (a b : List UInt8) : num (a ++ b) = num a + 256 ^ a.length * num b := by
  induction a with
  | nil => simp [num]
  | cons c r ih =>
    simp only [List.cons_append, num, ih, List.length_cons, Nat.pow_succ]
    rw [Nat.mul_add, ← Nat.mul_assoc, Nat.mul_comm 256 (256 ^ r.length)]
    omega
theorem num_snoc (a : List UInt8) (b : UInt8) : num (a ++ [b]) = num a + 256 ^ a.length * b.toNat := by
  rw [num_append]; simp [num]
theorem num_low (n k : Nat) : num (low n k) = n % 256 ^ k := by
  induction k generalizing n with
  | zero => simp [low, num, Nat.mod_one]
  | succ k ih =>
    rw [low_cons, num, ih, Nat.pow_succ', Nat.mod_mul]
    simp
theorem low_num (l : List UInt8) : low (num l) l.length = l := by
  induction l with
  | nil => rfl
  | cons b r ih =>
    rw [List.length_cons, low_cons, num]
    have e : (b.toNat + 256 * num r) / 256 = num r := by have := b.toNat_lt; omega
    rw [e, ih]
    congr 1
    apply UInt8.toNat_inj.1
    rw [UInt8.toNat_ofNat']
    have := b.toNat_lt
    omega
def off (zs : List Int) (k : Nat) : Nat := ((zs.take k).map Int.toNat).sum
theorem off_zero (zs : List Int) : off zs 0 = 0 := by simp [off]
theorem off_succ (zs : List Int) (k : Nat) (h : k < zs.length) : off zs (k + 1) = off zs k + (zs.getD k 0).toNat := by
  unfold off
  rw [List.take_succ_eq_append_getElem h, List.map_append, List.sum_append]
  simp [List.getElem?_eq_getElem h]
theorem off_mono (zs : List Int) (j k : Nat) (h : j ≤ k) : off zs j ≤ off zs k := by
  induction k with
  | zero => have : j = 0 := by omega
            subst this; exact Nat.le_refl _
  | succ k ih =>
    by_cases hj : j = k + 1
    · subst hj; exact Nat.le_refl _
    · have := ih (by omega)
      by_cases hk : k < zs.length
      · rw [off_succ zs k hk]; omega
      · have e : off zs (k + 1) = off zs k := by
          unfold off
          rw [List.take_of_length_le (show zs.length ≤ k + 1 by omega), List.take_of_length_le (show zs.length ≤ k by omega)]
        omega
def joined (zs : List Int) (ls : List Nat) (k : Nat) : List UInt8 := (List.range k).flatMap fun i => low (ls.getD i 0) (zs.getD i 0).toNat
theorem joined_zero (zs : List Int) (ls : List Nat) : joined zs ls 0 = [] := by simp [joined]
theorem joined_succ (zs : List Int) (ls : List Nat) (k : Nat) : joined zs ls (k + 1) = joined zs ls k ++ low (ls.getD k 0) (zs.getD k 0).toNat := by
  simp [joined, List.range_succ]
theorem joined_length (zs : List Int) (ls : List Nat) (k : Nat) (h : k ≤ zs.length) : (joined zs ls k).length = off zs k := by
  induction k with
  | zero => simp [joined, off]
  | succ k ih => rw [joined_succ, List.length_append, ih (by omega), low_length, off_succ zs k (by omega)]
def fitAll (zs : List Int) (ls : List Nat) (k : Nat) : Bool := (List.range k).all fun i => fits (ls.getD i 0) (zs.getD i 0).toNat
theorem fitAll_iff (zs : List Int) (ls : List Nat) (k : Nat) : fitAll zs ls k = true ↔ ∀ i, i < k → ls.getD i 0 < 256 ^ (zs.getD i 0).toNat := by
  simp [fitAll, fits]
theorem sizes_at (zs : List Int) (h : sizesOk zs = true) (i : Nat) : 0 ≤ zs.getD i 0 ∧ zs.getD i 0 ≤ 8 := by
  by_cases hi : i < zs.length
  · have := List.all_eq_true.1 h (zs[i]) (List.getElem_mem hi)
    rw [sizeOk_iff] at this
    simpa [List.getElem?_eq_getElem hi] using this
  · simp [List.getElem?_eq_none (show zs.length ≤ i by omega)]
theorem off_le (zs : List Int) (h : sizesOk zs = true) (k : Nat) : off zs k ≤ 8 * k := by
  induction k with
  | zero => simp [off]
  | succ k ih =>
    by_cases hk : k < zs.length
    · have := sizes_at zs h k
      rw [off_succ zs k hk]; omega
    · have e : off zs (k + 1) = off zs k := by
        unfold off
        rw [List.take_of_length_le (show zs.length ≤ k + 1 by omega), List.take_of_length_le (show zs.length ≤ k by omega)]
      omega
def at_ (s : List UInt8) (zs : List Int) (i : Nat) : Nat := num ((s.drop (off zs i)).take (zs.getD i 0).toNat)
theorem at_joined (zs : List Int) (ls : List Nat) (n : Nat) (t : List UInt8) (hn : n ≤ zs.length) (hf : fitAll zs ls n = true) (i : Nat) (hi : i < n) : at_ (joined zs ls n ++ t) zs i = ls.getD i 0 := by
  have hsplit : ∀ m, i < m → m ≤ n → ∃ u, joined zs ls m = joined zs ls i ++ (low (ls.getD i 0) (zs.getD i 0).toNat ++ u) := by
    intro m him hmn
    induction m with
    | zero => omega
    | succ m ih =>
      by_cases e : i = m
      · subst e; exact ⟨[], by rw [joined_succ]; simp⟩
      · obtain ⟨u, hu⟩ := ih (by omega) (by omega)
        exact ⟨u ++ low (ls.getD m 0) (zs.getD m 0).toNat, by rw [joined_succ, hu]; simp [List.append_assoc]⟩
  obtain ⟨u, hu⟩ := hsplit n hi (Nat.le_refl _)
  unfold at_
  rw [hu, ← joined_length zs ls i (by omega), List.append_assoc, List.drop_left, List.append_assoc, List.take_append_of_le_length (by rw [low_length]; exact Nat.le_refl _)]
  rw [List.take_of_length_le (by rw [low_length]; exact Nat.le_refl _), num_low, Nat.mod_eq_of_lt ((fitAll_iff zs ls n).1 hf i hi)]
theorem drop_joined (zs : List Int) (ls : List Nat) (n : Nat) (t : List UInt8) (hn : n ≤ zs.length) : (joined zs ls n ++ t).drop (off zs n) = t := by
  rw [← joined_length zs ls n hn, List.drop_left]
theorem joined_at (s : List UInt8) (zs : List Int) (ms : List Nat) (n : Nat) (hn : n ≤ zs.length) (hs : off zs n ≤ s.length) (hm : ∀ i, i < n → ms.getD i 0 = at_ s zs i) : joined zs ms n = s.take (off zs n) := by
  induction n with
  | zero => simp [joined, off]
  | succ k ih =>
    have hk : k < zs.length := by omega
    have ho := off_succ zs k hk
    rw [joined_succ, ih (by omega) (by omega) (fun i hi => hm i (by omega)), hm k (by omega)]
    have hl : ((s.drop (off zs k)).take (zs.getD k 0).toNat).length = (zs.getD k 0).toNat := by
      rw [List.length_take, List.length_drop]; omega
    have e : low (at_ s zs k) (zs.getD k 0).toNat = (s.drop (off zs k)).take (zs.getD k 0).toNat := by
      have h := low_num ((s.drop (off zs k)).take (zs.getD k 0).toNat)
      rw [hl] at h
      exact h
    rw [e, ho, List.take_add]
def sh (n k : Nat) : Nat := n / 256 ^ k
theorem sh_int (n k : Nat) : (n : Int) / 2 ^ (8 * k) = (sh n k : Int) := by
  unfold sh
  rw [Int.natCast_ediv]
  have : (256 : Nat) ^ k = 2 ^ (8 * k) := by rw [Nat.pow_mul]
  rw [this]
  simp
theorem sh_zero (n k : Nat) (h : n < 256 ^ k) : sh n k = 0 := Nat.div_eq_of_lt h
theorem sh_pos (n k : Nat) (h : ¬ n < 256 ^ k) : 0 < sh n k := Nat.div_pos (by omega) (Nat.pow_pos (by omega))
end Om
end Go.Proofs.YtbmabcddciibfaaGreat
namespace Go.Proofs.YtbmabcddciibfaaGreat
namespace Dm
structure St where
  S : List (List UInt8)
  P : List (Nat × List UInt8)
  fuse : Int
  dead : Bool
def last (P : List (Nat × List UInt8)) (k : Nat) (d : List UInt8) : List UInt8 := P.foldl (fun s x => if x.1 = k then x.2 else s) d
def one (st : St) (k : Nat) : List UInt8 := last st.P k (st.S.getD k [])
def thereB (st : St) (a n : Int) : Bool := decide (0 ≤ a ∧ 0 ≤ n ∧ n ≤ (st.S.length : Int) - a)
def span (st : St) (a n : Nat) : List UInt8 := ((List.range n).map fun i => one st (a + i)).flatten
def readE (st : St) (a n : Int) : Int := if st.dead then 41 else if thereB st a n then 0 else 2
def readS (st : St) (a n : Int) : List UInt8 := if st.dead then [] else if thereB st a n then span st a.toNat n.toNat else []
def spendS (st : St) : St :=
  if st.fuse = 0 then { st with dead := true } else if st.dead then st else { st with fuse := if 0 < st.fuse then st.fuse - 1 else st.fuse }
def spendB (st : St) : Bool := !(decide (st.fuse = 0)) && !st.dead
def put (st : St) (k : Nat) (d : List UInt8) : St := { st with P := st.P ++ [(k, d)] }
def puts : St → Nat → List (List UInt8) → St × Int
  | st, _, [] => (st, 0)
  | st, k, c :: cs => if spendB st then puts (put (spendS st) k c) (k + 1) cs else (spendS st, 41)
def chunks (l : List UInt8) : List (List UInt8) := (List.range (l.length / 64)).map fun i => (l.drop (64 * i)).take 64
def write (st : St) (a : Int) (l : List UInt8) : St × Int :=
  if st.dead then (st, 41) else if l.length % 64 = 0 then (if thereB st a (l.length / 64 : Nat) then puts st a.toNat (chunks l) else (st, 2)) else (st, 1)
def settle : List (List UInt8) → List (Nat × List UInt8) → List Bool → List (List UInt8)
  | S, [], _ => S
  | S, x :: P, keep => settle (if keep.headD false then S.set x.1 x.2 else S) P keep.tail
def all (P : List (Nat × List UInt8)) : List Bool := P.map fun _ => true
def flush (st : St) : St × Int :=
  if spendB st then (⟨settle st.S st.P (all st.P), [], (spendS st).fuse, (spendS st).dead⟩, 0) else (spendS st, 41)
def restart (st : St) (keep : List Bool) : St := ⟨settle st.S st.P keep, [], -1, false⟩
def fail (st : St) (n : Int) : St := { st with fuse := max n (-1) }
def pad (l : List UInt8) : List UInt8 := l ++ List.replicate ((64 - l.length % 64) % 64) 0
def load (l : List UInt8) : St := ⟨chunks (pad l), [], -1, false⟩
def fresh (n : Nat) : St := ⟨List.replicate n (List.replicate 64 0), [], -1, false⟩
structure Ok (st : St) : Prop where
  sectors : ∀ x ∈ st.S, x.length = 64
  writes : ∀ x ∈ st.P, x.1 < st.S.length ∧ x.2.length = 64
  fuse : -1 ≤ st.fuse
  few : st.S.length ≤ 1048576
theorem flat_length {S : List (List UInt8)} (h : ∀ x ∈ S, x.length = 64) : S.flatten.length = 64 * S.length := by
  induction S with
  | nil => rfl
  | cons a S ih =>
    rw [List.flatten_cons, List.length_append, ih (fun x hx => h x (List.mem_cons_of_mem _ hx)), h a List.mem_cons_self]
    simp; omega
theorem flat_set {S : List (List UInt8)} (h : ∀ x ∈ S, x.length = 64) (k : Nat) (hk : k < S.length) (d : List UInt8) :
    (S.set k d).flatten = S.flatten.take (64 * k) ++ d ++ S.flatten.drop (64 * k + 64) := by
  induction S generalizing k with
  | nil => simp at hk
  | cons a S ih =>
    have ha := h a List.mem_cons_self
    cases k with
    | zero =>
      simp only [List.set_cons_zero, List.flatten_cons, Nat.mul_zero, List.take_zero, List.nil_append, Nat.zero_add]
      rw [List.drop_append_of_le_length (by omega), List.drop_of_length_le (by omega), List.nil_append]
    | succ k =>
      have := ih (fun x hx => h x (List.mem_cons_of_mem _ hx)) k (by simpa using hk)
      simp only [List.set_cons_succ, List.flatten_cons, this]
      have e1 : 64 * (k + 1) = a.length + 64 * k := by omega
      rw [e1, List.take_append, List.drop_append]
      have e2 : a.take (a.length + 64 * k) = a := List.take_of_length_le (by omega)
      have e3 : a.drop (a.length + 64 * k + 64) = [] := List.drop_of_length_le (by omega)
      rw [e2, e3]
      simp only [List.append_assoc, List.nil_append]
      congr 4
      · omega
      · congr 1; omega
theorem flat_get {S : List (List UInt8)} (h : ∀ x ∈ S, x.length = 64) (k : Nat) (hk : k < S.length) : (S.flatten.drop (64 * k)).take 64 = S.getD k [] := by
  induction S generalizing k with
  | nil => simp at hk
  | cons a S ih =>
    have ha := h a List.mem_cons_self
    cases k with
    | zero =>
      simp only [List.flatten_cons, Nat.mul_zero, List.drop_zero, List.getD_cons_zero]
      rw [List.take_append_of_le_length (by omega), List.take_of_length_le (by omega)]
    | succ k =>
      have := ih (fun x hx => h x (List.mem_cons_of_mem _ hx)) k (by simpa using hk)
      simp only [List.flatten_cons, List.getD_cons_succ]
      rw [show 64 * (k + 1) = a.length + 64 * k by omega, ← List.drop_drop, List.drop_left, this]
theorem chunks_length (l : List UInt8) : (chunks l).length = l.length / 64 := by simp [chunks]
theorem chunks_get (l : List UInt8) (i : Nat) (h : i < l.length / 64) : (chunks l).getD i [] = (l.drop (64 * i)).take 64 := by simp [chunks, h]
theorem chunks_mem (l : List UInt8) : ∀ x ∈ chunks l, x.length = 64 := by
  intro x hx
  simp only [chunks, List.mem_map, List.mem_range] at hx
  obtain ⟨i, hi, rfl⟩ := hx
  rw [List.length_take, List.length_drop]
  omega
theorem chunks_step (l : List UInt8) (h : 64 ≤ l.length) : chunks l = l.take 64 :: chunks (l.drop 64) := by
  unfold chunks
  have e : l.length / 64 = (l.drop 64).length / 64 + 1 := by rw [List.length_drop]; omega
  rw [e, List.range_succ_eq_map]
  simp only [List.map_cons, List.map_map, Nat.mul_zero, List.drop_zero]
  congr 1
  apply List.map_congr_left
  intro i _
  simp only [Function.comp, Nat.succ_eq_add_one, List.drop_drop]
  congr 2
  omega
theorem chunks_flat (n : Nat) : ∀ l : List UInt8, l.length = 64 * n → (chunks l).flatten = l := by
  induction n with
  | zero => intro l h; simp [chunks, h]; exact List.eq_nil_of_length_eq_zero (by omega)
  | succ n ih =>
    intro l h
    rw [chunks_step l (by omega), List.flatten_cons, ih (l.drop 64) (by rw [List.length_drop]; omega), List.take_append_drop]
theorem pad_length (l : List UInt8) : (pad l).length = l.length + (64 - l.length % 64) % 64 := by simp [pad]
theorem pad_whole (l : List UInt8) : (pad l).length = 64 * ((pad l).length / 64) := by rw [pad_length]; omega
theorem load_flat (l : List UInt8) : (load l).S.flatten = pad l := chunks_flat _ _ (pad_whole l)
theorem load_length (l : List UInt8) : (load l).S.length = (l.length + 63) / 64 := by
  show (chunks (pad l)).length = _
  rw [chunks_length, pad_length]; omega
theorem load_ok (l : List UInt8) (h : (l.length + 63) / 64 ≤ 1048576) : Ok (load l) :=
  ⟨chunks_mem _, (fun x hx => by cases hx), Int.le_refl _, by rw [load_length]; exact h⟩
theorem fresh_ok (n : Nat) (h : n ≤ 1048576) : Ok (fresh n) :=
  ⟨fun x hx => by rw [(List.mem_replicate.1 hx).2]; simp, (fun x hx => by cases hx), Int.le_refl _, by simp [fresh, h]⟩
theorem fresh_flat (n : Nat) : (fresh n).S.flatten = List.replicate (64 * n) 0 := by
  show (List.replicate n (List.replicate 64 (0 : UInt8))).flatten = _
  rw [List.flatten_replicate_replicate, Nat.mul_comm]
theorem spendS_S (st : St) : (spendS st).S = st.S := by unfold spendS; split <;> (try split) <;> rfl
theorem spendS_P (st : St) : (spendS st).P = st.P := by unfold spendS; split <;> (try split) <;> rfl
theorem spend_ok {st : St} (h : Ok st) : Ok (spendS st) := by
  refine ⟨by rw [spendS_S]; exact h.sectors, by rw [spendS_S, spendS_P]; exact h.writes, ?_, by rw [spendS_S]; exact h.few⟩
  have := h.fuse
  unfold spendS
  split
  · exact this
  · split
    · exact this
    · show -1 ≤ (if 0 < st.fuse then st.fuse - 1 else st.fuse)
      split <;> omega
theorem put_ok {st : St} (h : Ok st) (k : Nat) (d : List UInt8) (hk : k < st.S.length) (hd : d.length = 64) : Ok (put st k d) := by
  refine ⟨h.sectors, fun x hx => ?_, h.fuse, h.few⟩
  rcases List.mem_append.1 hx with hx | hx
  · exact h.writes x hx
  · rw [List.mem_singleton.1 hx]; exact ⟨hk, hd⟩
theorem settle_length (S : List (List UInt8)) (P : List (Nat × List UInt8)) (keep : List Bool) : (settle S P keep).length = S.length := by
  induction P generalizing S keep with
  | nil => rfl
  | cons x P ih =>
    unfold settle
    rw [ih]
    split <;> simp
theorem settle_mem {S : List (List UInt8)} {P : List (Nat × List UInt8)} (keep : List Bool) (hS : ∀ x ∈ S, x.length = 64) (hP : ∀ x ∈ P, x.2.length = 64) : ∀ x ∈ settle S P keep, x.length = 64 := by
  induction P generalizing S keep with
  | nil => exact hS
  | cons y P ih =>
    unfold settle
    refine ih _ ?_ (fun x hx => hP x (List.mem_cons_of_mem _ hx))
    split
    · intro x hx
      rcases List.mem_or_eq_of_mem_set hx with h | h
      · exact hS x h
      · rw [h]; exact hP y List.mem_cons_self
    · exact hS
theorem settle_ok {st : St} (h : Ok st) (keep : List Bool) (f : Int) (d : Bool) (hf : -1 ≤ f) : Ok ⟨settle st.S st.P keep, [], f, d⟩ :=
  ⟨settle_mem keep h.sectors (fun x hx => (h.writes x hx).2), (fun x hx => by cases hx), hf, by rw [settle_length]; exact h.few⟩
theorem flush_ok {st : St} (h : Ok st) : Ok (flush st).1 := by
  unfold flush
  split
  · exact settle_ok h _ _ _ (spend_ok h).fuse
  · exact spend_ok h
theorem fail_ok {st : St} (h : Ok st) (n : Int) : Ok (fail st n) := ⟨h.sectors, h.writes, by show -1 ≤ max n (-1); omega, h.few⟩
theorem puts_ok {st : St} (h : Ok st) (k : Nat) (cs : List (List UInt8)) (hk : k + cs.length ≤ st.S.length) (hc : ∀ x ∈ cs, x.length = 64) : Ok (puts st k cs).1 ∧ (puts st k cs).1.S = st.S ∧ (puts st k cs).1.P.length ≤ st.P.length + cs.length := by
  induction cs generalizing st k with
  | nil => exact ⟨h, rfl, by simp [puts]⟩
  | cons c cs ih =>
    unfold puts
    split
    · have h1 : Ok (put (spendS st) k c) := put_ok (spend_ok h) k c (by rw [spendS_S]; simp at hk; omega) (hc c List.mem_cons_self)
      have hS : (put (spendS st) k c).S = st.S := spendS_S st
      have hP : (put (spendS st) k c).P.length = st.P.length + 1 := by show ((spendS st).P ++ [(k, c)]).length = _; rw [spendS_P]; simp
      obtain ⟨a1, a2, a3⟩ := ih h1 (k + 1) (by rw [hS]; simp at hk; omega) (fun x hx => hc x (List.mem_cons_of_mem _ hx))
      exact ⟨a1, a2.trans hS, by rw [hP] at a3; simp; omega⟩
    · exact ⟨spend_ok h, spendS_S st, by rw [spendS_P]; omega⟩
theorem there_iff (st : St) (a n : Int) : thereB st a n = true ↔ 0 ≤ a ∧ 0 ≤ n ∧ n ≤ (st.S.length : Int) - a := by simp [thereB]
theorem write_ok {st : St} (h : Ok st) (a : Int) (l : List UInt8) : Ok (write st a l).1 ∧ (write st a l).1.S = st.S ∧ (write st a l).1.P.length ≤ st.P.length + l.length / 64 := by
  unfold write
  split
  · exact ⟨h, rfl, Nat.le_add_right _ _⟩
  · split
    · split
      · rename_i ht
        obtain ⟨h1, h2, h3⟩ := (there_iff _ _ _).1 ht
        have := puts_ok h a.toNat (chunks l) (by rw [chunks_length]; omega) (chunks_mem l)
        rw [chunks_length] at this
        exact this
      · exact ⟨h, rfl, Nat.le_add_right _ _⟩
    · exact ⟨h, rfl, Nat.le_add_right _ _⟩
theorem last_snoc (P : List (Nat × List UInt8)) (k j : Nat) (d e : List UInt8) : last (P ++ [(j, e)]) k d = if j = k then e else last P k d := by simp [last]
theorem last_length {P : List (Nat × List UInt8)} (hP : ∀ x ∈ P, x.2.length = 64) (k : Nat) (d : List UInt8) (hd : d.length = 64) : (last P k d).length = 64 := by
  unfold last
  induction P generalizing d with
  | nil => exact hd
  | cons x P ih =>
    simp only [List.foldl_cons]
    refine ih (fun y hy => hP y (List.mem_cons_of_mem _ hy)) _ ?_
    split
    · exact hP x List.mem_cons_self
    · exact hd
theorem last_none {P : List (Nat × List UInt8)} {k : Nat} (h : ∀ x ∈ P, x.1 ≠ k) (d : List UInt8) : last P k d = d := by
  unfold last
  induction P generalizing d with
  | nil => rfl
  | cons x P ih =>
    simp only [List.foldl_cons]
    rw [if_neg (h x List.mem_cons_self)]
    exact ih (fun y hy => h y (List.mem_cons_of_mem _ hy)) d
theorem getD_mem {S : List (List UInt8)} {k : Nat} (h : k < S.length) : S.getD k [] ∈ S := by
  rw [List.getD_eq_getElem?_getD, List.getElem?_eq_getElem h]
  exact List.getElem_mem h
theorem one_length {st : St} (h : Ok st) (k : Nat) (hk : k < st.S.length) : (one st k).length = 64 :=
  last_length (fun x hx => (h.writes x hx).2) k _ (h.sectors _ (getD_mem hk))
theorem span_succ (st : St) (a n : Nat) : span st a (n + 1) = span st a n ++ one st (a + n) := by simp [span, List.range_succ]
theorem span_length {st : St} (h : Ok st) (a n : Nat) (hn : a + n ≤ st.S.length) : (span st a n).length = 64 * n := by
  induction n with
  | zero => rfl
  | succ n ih => rw [span_succ, List.length_append, ih (by omega), one_length h _ (by omega)]; omega
end Dm
end Go.Proofs.YtbmabcddciibfaaGreat
namespace Go.Proofs.YtbmabcddciibfaaGreat
namespace Dsk
open Go.RowKit
set_option linter.unusedVariables false
structure Fr (F : Nat → Prop) (w w' : World) : Prop where
  os : w'.os = w.os
  tape : w'.tape = w.tape
  output : w'.output = w.output
  size : w.heap.size ≤ w'.heap.size
  block : ∀ k, k < w.heap.size → ¬ F k → w'.heap[k]? = w.heap[k]?
theorem Fr.refl (F : Nat → Prop) (w : World) : Fr F w w := ⟨rfl, rfl, rfl, Nat.le_refl _, fun _ _ _ => rfl⟩
theorem Fr.trans {F G : Nat → Prop} {a b c : World} (h : Fr F a b) (k : Fr G b c) (hg : ∀ i, i < a.heap.size → G i → F i) : Fr F a c :=
  ⟨k.os.trans h.os, k.tape.trans h.tape, k.output.trans h.output, Nat.le_trans h.size k.size, fun i hi hF => (k.block i (Nat.lt_of_lt_of_le hi h.size) (fun e => hF (hg i hi e))).trans (h.block i hi hF)⟩
theorem Fr.mono {F G : Nat → Prop} {a b : World} (h : Fr F a b) (hg : ∀ i, i < a.heap.size → F i → G i) : Fr G a b := ⟨h.os, h.tape, h.output, h.size, fun i hi hG => h.block i hi (fun e => hG (hg i hi e))⟩
theorem Fr.of_below {F : Nat → Prop} {a b : World} (h : Below a.heap.size a b) : Fr F a b := ⟨h.os, h.tape, h.output, h.size, fun i hi _ => h.block i hi⟩
theorem Fr.below {F : Nat → Prop} {a b : World} (h : Fr F a b) {B : Nat} (hB : B ≤ a.heap.size) (hF : ∀ k, F k → B ≤ k) : Below B a b :=
  ⟨h.os, h.tape, h.output, h.size, fun i hi => h.block i (by omega) (fun e => by have := hF i e; omega)⟩
theorem Fr.of_grown {F : Nat → Prop} {a b : World} {row : Option Nat} (h : a.grownBy b row) (hr : ∀ k, row = some k → F k) : Fr F a b :=
  ⟨h.os, h.tape, h.output, h.size, fun i hi hF => h.block i hi (fun e => hF (hr i e.symm))⟩
theorem Fr.alloc {F : Nat → Prop} {a b : World} (h : Fr F a b) (o : Obj) : Fr F a (b.alloc o) :=
  h.trans (G := fun _ => False) ⟨rfl, rfl, rfl, by simp, fun k hk _ => Below.heap_alloc _ _ _ hk⟩ (fun _ _ e => e.elim)
theorem Fr.setCell {F : Nat → Prop} {a b : World} (h : Fr F a b) (p : Addr) (hp : F p.block) (u : Value) : Fr F a (b.setCell p u) :=
  h.trans (G := fun k => k = p.block) ⟨rfl, rfl, rfl, by simp [World.setCell], fun k hk hne => Below.heap_setCell _ _ _ _ hne⟩ (fun i _ e => e ▸ hp)
theorem Fr.setRow {F : Nat → Prop} {a b : World} (h : Fr F a b) (g : Nat) (hp : F g) (cs : Array Value) : Fr F a (b.setRow g cs) :=
  h.trans (G := fun k => k = g) ⟨rfl, rfl, rfl, by simp, fun k hk hne => setRow_other b g k cs hne⟩ (fun i _ e => e ▸ hp)
theorem Fr.drew {F : Nat → Prop} {a b : World} (h : Fr F a b) : Fr F a b.drew := ⟨h.os, h.tape, h.output, h.size, h.block⟩
theorem Fr.drewN {F : Nat → Prop} {a b : World} (h : Fr F a b) (n : Nat) : Fr F a (b.drewN n) := ⟨h.os, h.tape, h.output, h.size, h.block⟩
theorem own_same {w w' : World} {base : Nat} {e : TypeId} {size : Nat} {v : Value} {n : Nat} {xs : List Value} (h : w.ownsRow base e size v n xs) (hb : ∀ k, v.ownBlock = some k → w'.heap[k]? = w.heap[k]?) : w'.ownsRow base e size v n xs := by
  refine ⟨h.1, ?_⟩
  rcases h.2 with h2 | ⟨g, cap, cur, hv, hg, hh, r⟩
  · exact Or.inl h2
  · refine Or.inr ⟨g, cap, cur, hv, hg, ?_, r⟩
    rw [hb g (by rw [hv]; rfl)]
    exact hh
theorem map_same {H : Type} {w w' : World} {P : Program} {k : TypeId} {R : Value → Option (DataW H × List MemPlace)} {b n : Nat} {D : DataW H} (h : w.ownsMap P k R b n D) (hb : w'.heap[b]? = w.heap[b]?) : w'.ownsMap P k R b n D := by
  obtain ⟨es, clock, h1, r⟩ := h
  exact ⟨es, clock, hb.trans h1, r⟩
theorem own_slice {w : World} {base : Nat} {e : TypeId} {size : Nat} {v : Value} {n : Nat} {xs : List Value} (h : w.ownsRow base e size v n xs) : ∃ a c, v = .slice a n c := by
  rcases h.2 with ⟨h2, rfl⟩ | ⟨g, cap, cur, hv, _⟩
  · exact ⟨_, _, h2⟩
  · exact ⟨_, _, hv⟩
theorem own_block {w : World} {base : Nat} {e : TypeId} {size : Nat} {v : Value} {n : Nat} {xs : List Value} (h : w.ownsRow base e size v n xs) (k : Nat) (hk : v.ownBlock = some k) : ∃ cur, w.heap[k]? = some (.cells cur e (0, 0)) := by
  rcases h.2 with ⟨rfl, _⟩ | ⟨g, cap, cur, rfl, _, hh, _⟩
  · simp [Value.ownBlock] at hk
  · simp [Value.ownBlock] at hk
    subst hk
    exact ⟨cur, hh⟩
theorem lt_of_heap {w : World} {k : Nat} {o : Obj} (h : w.heap[k]? = some o) : k < w.heap.size := (Array.getElem?_eq_some_iff.1 h).1
end Dsk
end Go.Proofs.YtbmabcddciibfaaGreat
namespace Go.Proofs.YtbmabcddciibfaaGreat
namespace Dsk
open Go.RowKit
set_option linter.unusedVariables false
def wcells (P : List (Nat × List UInt8)) : List Value := P.flatMap fun x => [.int .i64 (x.1 : Int), .string (Om.B x.2)]
theorem wcells_snoc (P : List (Nat × List UInt8)) (k : Nat) (d : List UInt8) : wcells (P ++ [(k, d)]) = wcells P ++ [.int .i64 (k : Int), .string (Om.B d)] := by simp [wcells]
theorem wcells_get (P : List (Nat × List UInt8)) (i : Nat) (h : i < P.length) : (wcells P)[2 * i]? = some (.int .i64 (P[i].1 : Int)) ∧ (wcells P)[2 * i + 1]? = some (.string (Om.B P[i].2)) := by
  induction P generalizing i with
  | nil => simp at h
  | cons x P ih =>
    have e : wcells (x :: P) = .int .i64 (x.1 : Int) :: .string (Om.B x.2) :: wcells P := rfl
    rw [e]
    cases i with
    | zero => simp
    | succ i =>
      have := ih i (by simpa using h)
      rw [show 2 * (i + 1) = 2 * i + 1 + 1 by omega]
      simpa using this
def MapOk (D : DataW Unit) (P : List (Nat × List UInt8)) : Prop :=
  Maps.IsMap D ∧ ∀ k : Nat, (Maps.has D (.int .i64 (k : Int)) = false ∧ ∀ x ∈ P, x.1 ≠ k) ∨
    ∃ i d, Maps.has D (.int .i64 (k : Int)) = true ∧ (∀ z, D.atKey (.int .i64 (k : Int)) z = .lit (.int .i64 (i : Nat))) ∧ P[i]? = some (k, d) ∧ ∀ s, Dm.last P k s = d
theorem mapOk_nil : MapOk (.map []) [] := ⟨Maps.isMap_empty, fun k => Or.inl ⟨rfl, fun x hx => by cases hx⟩⟩
theorem mapOk_put {D : DataW Unit} {P : List (Nat × List UInt8)} (h : MapOk D P) (k : Nat) (d : List UInt8) : MapOk (D.put (.int .i64 (k : Int)) (.lit (.int .i64 (P.length : Int)))) (P ++ [(k, d)]) := by
  refine ⟨h.1.put _ _, fun j => ?_⟩
  by_cases e : j = k
  · subst e
    refine Or.inr ⟨P.length, d, Maps.has_put_same h.1 (k := .int .i64 (j : Int)) trivial _, fun z => Maps.atKey_put_same h.1 (k := .int .i64 (j : Int)) trivial _ _, by simp, fun s => by rw [Dm.last_snoc, if_pos rfl]⟩
  · have hne : (Lit.int .i64 (j : Int)) ≠ .int .i64 (k : Int) := fun c => e (by injection c with _ c; omega)
    rcases h.2 j with ⟨h1, h2⟩ | ⟨i, d', h1, h2, h3, h4⟩
    · refine Or.inl ⟨by rw [Maps.has_put_other hne]; exact h1, fun x hx => ?_⟩
      rcases List.mem_append.1 hx with hx | hx
      · exact h2 x hx
      · rw [List.mem_singleton.1 hx]; exact fun c => e c.symm
    · refine Or.inr ⟨i, d', by rw [Maps.has_put_other hne]; exact h1, fun z => by rw [Maps.atKey_put_other hne]; exact h2 z, ?_, fun s => by rw [Dm.last_snoc, if_neg (fun c => e c.symm)]; exact h4 s⟩
      rw [List.getElem?_append_left (Array.getElem?_eq_some_iff.1 (by simpa using h3) |>.1)]
      exact h3
structure Ob where
  p : Nat
  sb : Nat
  pv : Value
  mb : Nat
  f : Int
  sp : List UInt8
def Ob.fp (o : Ob) (k : Nat) : Prop := k = o.p ∨ k = o.sb ∨ o.pv.ownBlock = some k ∨ k = o.mb
def Ob.cells (o : Ob) (n : Nat) (dead : Bool) : Array Value := #[.slice (some ⟨o.sb, 0, none⟩) n (n + o.sp.length), o.pv, .map (some o.mb), .int .i64 o.f, .bool dead]
structure Dk (w : World) (o : Ob) (st : Dm.St) : Prop where
  ok : Dm.Ok st
  head : w.heap[o.p]? = some (.cells (o.cells (64 * st.S.length) st.dead) 98 (0, 0))
  stands : w.heap[o.sb]? = some (.cells (Lib.byteCells (st.S.flatten ++ o.sp)).toArray 5 (0, 0))
  pend : w.ownsRow 0 100 2 o.pv st.P.length (wcells st.P)
  newest : ∃ D n, w.ownsMap Tryz.prog 3 (plainElem (H := Unit) Tryz.prog 3) o.mb n D ∧ n ≤ st.P.length ∧ MapOk D st.P
  fuse : max o.f (-1) = st.fuse
  low : -9223372036854775808 ≤ o.f
  high : o.f ≤ 9223372036854775807
theorem Dk.lt {w : World} {o : Ob} {st : Dm.St} (h : Dk w o st) (k : Nat) (hk : o.fp k) : k < w.heap.size := by
  rcases hk with rfl | rfl | hk | rfl
  · exact lt_of_heap h.head
  · exact lt_of_heap h.stands
  · obtain ⟨cur, hc⟩ := own_block h.pend k hk; exact lt_of_heap hc
  · obtain ⟨D, n, hm, _⟩ := h.newest; exact hm.lt
theorem Dk.same {w w' : World} {o : Ob} {st : Dm.St} (h : Dk w o st) (hb : ∀ k, o.fp k → w'.heap[k]? = w.heap[k]?) : Dk w' o st := by
  obtain ⟨D, n, hm, r⟩ := h.newest
  exact ⟨h.ok, (hb _ (.inl rfl)).trans h.head, (hb _ (.inr (.inl rfl))).trans h.stands, own_same h.pend fun k hk => hb k (.inr (.inr (.inl hk))), ⟨D, n, map_same hm (hb _ (.inr (.inr (.inr rfl)))), r⟩, h.fuse, h.low, h.high⟩
theorem Dk.keep {w w' : World} {o : Ob} {st : Dm.St} {F : Nat → Prop} (h : Dk w o st) (hf : Fr F w w') (hd : ∀ k, o.fp k → ¬ F k) : Dk w' o st := h.same fun k hk => hf.block k (h.lt k hk) (hd k hk)
theorem Dk.below {w w' : World} {o : Ob} {st : Dm.St} (h : Dk w o st) (hb : Below w.heap.size w w') : Dk w' o st := h.same fun k hk => hb.block k (h.lt k hk)
structure Step (o o' : Ob) (w w' : World) : Prop where
  fr : Fr o.fp w w'
  fp : ∀ k, o'.fp k → o.fp k ∨ w.heap.size ≤ k
  p : o'.p = o.p
theorem Step.refl (o : Ob) (w : World) : Step o o w w := ⟨Fr.refl _ _, fun _ h => .inl h, rfl⟩
theorem Step.trans {a b c : Ob} {u v w : World} (h : Step a b u v) (k : Step b c v w) : Step a c u w := by
  refine ⟨h.fr.trans k.fr fun i hi hb => ?_, fun i hi => ?_, k.p.trans h.p⟩
  · rcases h.fp i hb with h1 | h1
    · exact h1
    · omega
  · rcases k.fp i hi with h1 | h1
    · exact h.fp i h1
    · exact .inr (Nat.le_trans h.fr.size h1)
theorem Step.below {o o' : Ob} {w w' : World} (h : Step o o' w w') {B : Nat} (hB : B ≤ w.heap.size) (ho : ∀ k, o.fp k → B ≤ k) : Below B w w' ∧ ∀ k, o'.fp k → B ≤ k :=
  ⟨h.fr.below hB ho, fun k hk => (h.fp k hk).elim (ho k) (Nat.le_trans hB)⟩
theorem Step.of_below {o : Ob} {w w' : World} (h : Below w.heap.size w w') : Step o o w w' := ⟨Fr.of_below h, fun _ h => .inl h, rfl⟩
theorem Dk.reads {w : World} {o : Ob} {st : Dm.St} (h : Dk w o st) :
    w.cell? ⟨o.p, 0, none⟩ = some (.slice (some ⟨o.sb, 0, none⟩) (64 * st.S.length) (64 * st.S.length + o.sp.length)) ∧ w.cell? ⟨o.p, 1, none⟩ = some o.pv ∧ w.cell? ⟨o.p, 2, none⟩ = some (.map (some o.mb)) ∧
    w.cell? ⟨o.p, 3, none⟩ = some (.int .i64 o.f) ∧ w.cell? ⟨o.p, 4, none⟩ = some (.bool st.dead) ∧ ∀ j, w.frozen? ⟨o.p, j, none⟩ = false := by
  refine ⟨?_, ?_, ?_, ?_, ?_, fun j => frozen_of_row _ _ _ _ _ h.head⟩ <;> (rw [cell_of_row _ _ _ _ _ _ h.head]; rfl)
end Dsk
end Go.Proofs.YtbmabcddciibfaaGreat
namespace Go.Proofs.YtbmabcddciibfaaGreat
namespace Dsk
open Go.RowKit
set_option maxRecDepth 100000
set_option linter.unusedVariables false
theorem sectors_any {w : World} {o : Ob} {st : Dm.St} (h : Dk w o st) : Calls Tryz.prog 85 #[.pointer (some ⟨o.p, 0, none⟩)] w fun e w' => e = .returned (.int .i64 (st.S.length : Int)) ∧ w = w' := by
  obtain ⟨h0, _, _, _, _, _⟩ := h.reads
  have hk := h.ok.few
  obtain ⟨n, hn⟩ : ∃ n, n = st.S.length := ⟨_, rfl⟩
  rw [← hn] at h0 hk ⊢
  clear hn h
  have hq : ((64 * n : Nat) : Int) / 64 = (n : Int) := by omega
  have HQ := Lib.hid hq
  clear hq
  go_enter Tryz.func85, Tryz.ntmps85
  go_wp2
  go_ret
  exact ⟨by rw [← HQ.out]; rfl, rfl⟩
theorem has_any {w : World} {o : Ob} {st : Dm.St} (h : Dk w o st) (a n : Int) (ha : a ≤ 9223372036854775807) : Calls Tryz.prog 96 #[.pointer (some ⟨o.p, 0, none⟩), .int .i64 a, .int .i64 n] w fun e w' => e = .returned (.bool (Dm.thereB st a n)) ∧ w = w' := by
  have hk := h.ok.few
  have hiff := Dm.there_iff st a n
  by_cases h1 : 0 ≤ a
  · by_cases h2 : 0 ≤ n
    · have hr : Dm.thereB st a n = decide (n ≤ (st.S.length : Int) - a) := by rw [Bool.eq_iff_iff, hiff]; simp [h1, h2]
      have HR := Lib.hid hr
      clear hr hiff
      go_enter Tryz.func96, Tryz.ntmps96
      go_wp2_with (go_at_call 85; refine (sectors_any h).mono ?_; rintro e w' ⟨rfl, rfl⟩)
      all_goals (go_ret; exact ⟨by rw [HR.out]; simp_all, rfl⟩)
    · have hr : Dm.thereB st a n = false := by rw [Bool.eq_false_iff]; intro c; exact h2 (hiff.1 c).2.1
      have HR := Lib.hid hr
      clear hr hiff
      have hd : decide (0 ≤ n) = false := by simpa using h2
      go_enter Tryz.func96, Tryz.ntmps96
      go_wp2_with fail
      go_ret
      exact ⟨by rw [HR.out]; rfl, rfl⟩
  · have hr : Dm.thereB st a n = false := by rw [Bool.eq_false_iff]; intro c; exact h1 (hiff.1 c).1
    have HR := Lib.hid hr
    clear hr hiff
    have hd : decide (0 ≤ a) = false := by simpa using h1
    go_enter Tryz.func96, Tryz.ntmps96
    go_wp2_with fail
    go_ret
    exact ⟨by rw [HR.out]; rfl, rfl⟩
theorem Dk.apart {w : World} {o : Ob} {st : Dm.St} (h : Dk w o st) : o.sb ≠ o.p ∧ o.mb ≠ o.p ∧ o.mb ≠ o.sb ∧ (∀ k, o.pv.ownBlock = some k → k ≠ o.p ∧ k ≠ o.sb ∧ k ≠ o.mb) := by
  obtain ⟨D, n, ⟨es, clock, hm, _⟩, _⟩ := h.newest
  have h1 := h.head
  have h2 := h.stands
  refine ⟨fun e => ?_, fun e => ?_, fun e => ?_, fun k hk => ⟨fun e => ?_, fun e => ?_, fun e => ?_⟩⟩
  · rw [e, h1] at h2; injection h2 with h2; injection h2 with _ h2; cases h2
  · rw [e, h1] at hm; injection hm with hm; cases hm
  · rw [e, h2] at hm; injection hm with hm; cases hm
  · obtain ⟨cur, hc⟩ := own_block h.pend k hk; rw [e, h1] at hc; injection hc with hc; injection hc with _ hc; cases hc
  · obtain ⟨cur, hc⟩ := own_block h.pend k hk; rw [e, h2] at hc; injection hc with hc; injection hc with _ hc; cases hc
  · obtain ⟨cur, hc⟩ := own_block h.pend k hk; rw [e, hm] at hc; injection hc with hc; cases hc
theorem Dk.setFuse {w : World} {o : Ob} {st : Dm.St} (h : Dk w o st) (f : Int) (hl : -9223372036854775808 ≤ f) (hh : f ≤ 9223372036854775807) :
    Dk (w.setCell ⟨o.p, 3, none⟩ (.int .i64 f)) { o with f := f } (Dm.fail st f) := by
  obtain ⟨a1, a2, _, a3⟩ := h.apart
  obtain ⟨D, n, hm, r⟩ := h.newest
  refine ⟨Dm.fail_ok h.ok f, ?_, ?_, ?_, ⟨D, n, map_same hm (Below.heap_setCell _ _ _ _ a2), r⟩, rfl, hl, hh⟩
  · rw [heap_setCell_same _ _ _ _ _ _ h.head]; rfl
  · rw [Below.heap_setCell _ _ _ _ a1]; exact h.stands
  · exact own_same h.pend fun k hk => Below.heap_setCell _ _ _ _ (a3 k hk).1
theorem Dk.setDead {w : World} {o : Ob} {st : Dm.St} (h : Dk w o st) (b : Bool) : Dk (w.setCell ⟨o.p, 4, none⟩ (.bool b)) o { st with dead := b } := by
  obtain ⟨a1, a2, _, a3⟩ := h.apart
  obtain ⟨D, n, hm, r⟩ := h.newest
  refine ⟨⟨h.ok.sectors, h.ok.writes, h.ok.fuse, h.ok.few⟩, ?_, ?_, ?_, ⟨D, n, map_same hm (Below.heap_setCell _ _ _ _ a2), r⟩, h.fuse, h.low, h.high⟩
  · rw [heap_setCell_same _ _ _ _ _ _ h.head]; rfl
  · rw [Below.heap_setCell _ _ _ _ a1]; exact h.stands
  · exact own_same h.pend fun k hk => Below.heap_setCell _ _ _ _ (a3 k hk).1
theorem Dk.setNone {w : World} {o : Ob} {st : Dm.St} (h : Dk w o st) : Dk (((w.setCell ⟨o.p, 1, none⟩ (.slice none 0 0)).setCell ⟨o.p, 2, none⟩ (.map (some w.heap.size))).alloc (.map #[] 0)) { o with pv := .slice none 0 0, mb := w.heap.size } { st with P := [] } := by
  obtain ⟨a1, a2, _, a3⟩ := h.apart
  have hp := lt_of_heap h.head
  have hs := lt_of_heap h.stands
  have hsz : ((w.setCell ⟨o.p, 1, none⟩ (.slice none 0 0)).setCell ⟨o.p, 2, none⟩ (.map (some w.heap.size))).heap.size = w.heap.size := by simp [World.setCell]
  refine ⟨⟨h.ok.sectors, (fun x hx => by cases hx), h.ok.fuse, h.ok.few⟩, ?_, ?_, World.ownsRow_nil _ _ _ _, ⟨.map [], 0, ?_, Nat.le_refl _, mapOk_nil⟩, h.fuse, h.low, h.high⟩
  · rw [Below.heap_alloc _ _ _ (by rw [hsz]; exact hp), heap_setCell_same _ _ _ _ _ _ (heap_setCell_same _ _ _ _ _ _ h.head)]; rfl
  · rw [Below.heap_alloc _ _ _ (by rw [hsz]; exact hs), Below.heap_setCell _ _ _ _ a1, Below.heap_setCell _ _ _ _ a1]; exact h.stands
  · have := World.ownsMap_made (H := Unit) ((w.setCell ⟨o.p, 1, none⟩ (.slice none 0 0)).setCell ⟨o.p, 2, none⟩ (.map (some w.heap.size))) Tryz.prog 3 (plainElem Tryz.prog 3)
    rw [hsz] at this
    exact this
def Went (o : Ob) (st : Dm.St) (w w' : World) : Prop := ∃ o', Dk w' o' st ∧ Step o o' w w'
theorem Went.refl {o : Ob} {st : Dm.St} {w : World} (h : Dk w o st) : Went o st w w := ⟨o, h, Step.refl _ _⟩
theorem step_head (o o' : Ob) (w : World) (i : Nat) (v : Value) (hfp : ∀ k, o'.fp k → o.fp k) (hp : o'.p = o.p) : Step o o' w (w.setCell ⟨o.p, i, none⟩ v) :=
  ⟨(Fr.refl _ _).setCell _ (.inl rfl) _, fun k hk => .inl (hfp k hk), hp⟩
theorem spend_any {w : World} {o : Ob} {st : Dm.St} (h : Dk w o st) : Calls Tryz.prog 41 #[.pointer (some ⟨o.p, 0, none⟩)] w fun e w' => e = .returned (.bool (Dm.spendB st)) ∧ Went o (Dm.spendS st) w w' := by
  obtain ⟨_, _, _, h3, h4, hf⟩ := h.reads
  have hf3 := hf 3
  have hf4 := hf 4
  have hlo := h.low
  have hhi := h.high
  have hfu := h.fuse
  have H := Lib.hid h
  clear hf h
  by_cases hz : o.f = 0
  · have hz' : (o.f == 0) = true := by simp [hz]
    have hs : Dm.spendS st = { st with dead := true } := by unfold Dm.spendS; rw [if_pos (by omega)]
    have hb : Dm.spendB st = false := by unfold Dm.spendB; simp; omega
    have HS := Lib.hid hs
    have HB := Lib.hid hb
    clear hs hb hfu hz
    go_enter Tryz.func41, Tryz.ntmps41
    go_wp2
    go_ret
    exact ⟨by rw [HB.out]; rfl, by rw [HS.out]; exact ⟨_, H.out.setDead true, step_head _ _ _ _ _ (fun _ h => h) rfl⟩⟩
  · have hz' : (o.f == 0) = false := by simp [hz]
    cases hdead : st.dead with
    | true =>
      have hs : Dm.spendS st = st := by unfold Dm.spendS; rw [if_neg (by omega), if_pos hdead]
      have hb : Dm.spendB st = false := by unfold Dm.spendB; simp [hdead]
      have HS := Lib.hid hs
      have HB := Lib.hid hb
      rw [hdead] at h4
      clear hs hb hfu hz hdead
      go_enter Tryz.func41, Tryz.ntmps41
      go_wp2
      go_ret
      exact ⟨by rw [HB.out]; rfl, by rw [HS.out]; exact Went.refl H.out⟩
    | false =>
      have hb : Dm.spendB st = true := by unfold Dm.spendB; simp [hdead]; omega
      have HB := Lib.hid hb
      by_cases hpos : 0 < o.f
      · have hs : Dm.spendS st = Dm.fail st (o.f - 1) := by
          unfold Dm.spendS Dm.fail; rw [if_neg (by omega), if_neg (by simp [hdead]), if_pos (by omega)]
          congr 1
          omega
        have HS := Lib.hid hs
        rw [hdead] at h4
        clear hs hb hfu hz hdead
        go_enter Tryz.func41, Tryz.ntmps41
        go_wp2
        go_ret
        exact ⟨by rw [HB.out]; rfl, by rw [HS.out]; exact ⟨_, H.out.setFuse (o.f - 1) (by omega) (by omega), step_head _ _ _ _ _ (fun _ h => h) rfl⟩⟩
      · have hs : Dm.spendS st = st := by
          unfold Dm.spendS; rw [if_neg (by omega), if_neg (by simp [hdead]), if_neg (by omega)]
        have HS := Lib.hid hs
        rw [hdead] at h4
        clear hs hb hfu hz hdead
        go_enter Tryz.func41, Tryz.ntmps41
        go_wp2
        go_ret
        exact ⟨by rw [HB.out]; rfl, by rw [HS.out]; exact Went.refl H.out⟩
theorem forget_any {w : World} {o : Ob} {st : Dm.St} (h : Dk w o st) : Calls Tryz.prog 43 #[.pointer (some ⟨o.p, 0, none⟩)] w fun e w' => e = .returned (.tuple #[]) ∧ Went o { st with P := [] } w w' := by
  obtain ⟨_, h1, h2, _, _, hf⟩ := h.reads
  have hf1 := hf 1
  have hf2 := hf 2
  have hp := lt_of_heap h.head
  have H := Lib.hid h
  have hmm := @run_makeMap Tryz.prog
  clear hf h
  go_enter Tryz.func43, Tryz.ntmps43
  go_wp2
  go_end0
  refine ⟨rfl, _, H.out.setNone, ⟨?_, ?_, rfl⟩⟩
  · exact (((Fr.refl _ _).setCell ⟨o.p, 1, none⟩ (.inl rfl) _).setCell ⟨o.p, 2, none⟩ (.inl rfl) _).alloc _
  · rintro k (hk | hk | hk | hk)
    · exact .inl (.inl hk)
    · exact .inl (.inr (.inl hk))
    · cases hk
    · exact .inr (Nat.le_of_eq hk.symm)
end Dsk
end Go.Proofs.YtbmabcddciibfaaGreat
