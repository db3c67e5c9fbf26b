/- Plain mathematics of a disk with a cache: sectors, pending writes, a fuse; no program is named. -/
import Derived.KernelRfl
import Derived.Test.YtbmabcddciibfaaOctetMath
namespace Go.Proofs.Ytbmabcddciibfaa
namespace Dm
/-- What stands in each sector, the pending writes in order, the fuse (-1: none), whether it is dead. -/
structure St where
  S : List (List UInt8)
  P : List (Nat × List UInt8)
  fuse : Int
  dead : Bool

def last (P : List (Nat × List UInt8)) (k : Nat) (d : List UInt8) : List UInt8 := P.foldl (fun s x => if x.1 = k then x.2 else s) d
def one (st : St) (k : Nat) : List UInt8 := last st.P k (st.S.getD k [])
def thereB (st : St) (a n : Int) : Bool := decide (0 ≤ a ∧ 0 ≤ n ∧ n ≤ (st.S.length : Int) - a)
def span (st : St) (a n : Nat) : List UInt8 := ((List.range n).map fun i => one st (a + i)).flatten
def readE (st : St) (a n : Int) : Int := if st.dead then 41 else if thereB st a n then 0 else 2
def readS (st : St) (a n : Int) : List UInt8 := if st.dead then [] else if thereB st a n then span st a.toNat n.toNat else []
def spendS (st : St) : St :=
  if st.fuse = 0 then { st with dead := true } else if st.dead then st else { st with fuse := if 0 < st.fuse then st.fuse - 1 else st.fuse }
def spendB (st : St) : Bool := !(decide (st.fuse = 0)) && !st.dead
def put (st : St) (k : Nat) (d : List UInt8) : St := { st with P := st.P ++ [(k, d)] }
def puts : St → Nat → List (List UInt8) → St × Int
  | st, _, [] => (st, 0)
  | st, k, c :: cs => if spendB st then puts (put (spendS st) k c) (k + 1) cs else (spendS st, 41)
def chunks (l : List UInt8) : List (List UInt8) := (List.range (l.length / 64)).map fun i => (l.drop (64 * i)).take 64
def write (st : St) (a : Int) (l : List UInt8) : St × Int :=
  if st.dead then (st, 41) else if l.length % 64 = 0 then (if thereB st a (l.length / 64 : Nat) then puts st a.toNat (chunks l) else (st, 2)) else (st, 1)
/-- The pending writes that are kept stand. -/
def settle : List (List UInt8) → List (Nat × List UInt8) → List Bool → List (List UInt8)
  | S, [], _ => S
  | S, x :: P, keep => settle (if keep.headD false then S.set x.1 x.2 else S) P keep.tail
def all (P : List (Nat × List UInt8)) : List Bool := P.map fun _ => true
def flush (st : St) : St × Int :=
  if spendB st then (⟨settle st.S st.P (all st.P), [], (spendS st).fuse, (spendS st).dead⟩, 0) else (spendS st, 41)
def restart (st : St) (keep : List Bool) : St := ⟨settle st.S st.P keep, [], -1, false⟩
def fail (st : St) (n : Int) : St := { st with fuse := max n (-1) }
def pad (l : List UInt8) : List UInt8 := l ++ List.replicate ((64 - l.length % 64) % 64) 0
def load (l : List UInt8) : St := ⟨chunks (pad l), [], -1, false⟩
def fresh (n : Nat) : St := ⟨List.replicate n (List.replicate 64 0), [], -1, false⟩

structure Ok (st : St) : Prop where
  sectors : ∀ x ∈ st.S, x.length = 64
  writes : ∀ x ∈ st.P, x.1 < st.S.length ∧ x.2.length = 64
  fuse : -1 ≤ st.fuse
  few : st.S.length ≤ 1048576

theorem flat_length {S : List (List UInt8)} (h : ∀ x ∈ S, x.length = 64) : S.flatten.length = 64 * S.length := by
  induction S with
  | nil => rfl
  | cons a S ih =>
    rw [List.flatten_cons, List.length_append, ih (fun x hx => h x (List.mem_cons_of_mem _ hx)), h a List.mem_cons_self]
    simp; omega
theorem flat_set {S : List (List UInt8)} (h : ∀ x ∈ S, x.length = 64) (k : Nat) (hk : k < S.length) (d : List UInt8) :
    (S.set k d).flatten = S.flatten.take (64 * k) ++ d ++ S.flatten.drop (64 * k + 64) := by
  induction S generalizing k with
  | nil => simp at hk
  | cons a S ih =>
    have ha := h a List.mem_cons_self
    cases k with
    | zero =>
      simp only [List.set_cons_zero, List.flatten_cons, Nat.mul_zero, List.take_zero, List.nil_append, Nat.zero_add]
      rw [List.drop_append_of_le_length (by omega), List.drop_of_length_le (by omega), List.nil_append]
    | succ k =>
      have := ih (fun x hx => h x (List.mem_cons_of_mem _ hx)) k (by simpa using hk)
      simp only [List.set_cons_succ, List.flatten_cons, this]
      have e1 : 64 * (k + 1) = a.length + 64 * k := by omega
      rw [e1, List.take_append, List.drop_append]
      have e2 : a.take (a.length + 64 * k) = a := List.take_of_length_le (by omega)
      have e3 : a.drop (a.length + 64 * k + 64) = [] := List.drop_of_length_le (by omega)
      rw [e2, e3]
      simp only [List.append_assoc, List.nil_append]
      congr 4
      · omega
      · congr 1; omega
theorem flat_get {S : List (List UInt8)} (h : ∀ x ∈ S, x.length = 64) (k : Nat) (hk : k < S.length) : (S.flatten.drop (64 * k)).take 64 = S.getD k [] := by
  induction S generalizing k with
  | nil => simp at hk
  | cons a S ih =>
    have ha := h a List.mem_cons_self
    cases k with
    | zero =>
      simp only [List.flatten_cons, Nat.mul_zero, List.drop_zero, List.getD_cons_zero]
      rw [List.take_append_of_le_length (by omega), List.take_of_length_le (by omega)]
    | succ k =>
      have := ih (fun x hx => h x (List.mem_cons_of_mem _ hx)) k (by simpa using hk)
      simp only [List.flatten_cons, List.getD_cons_succ]
      rw [show 64 * (k + 1) = a.length + 64 * k by omega, ← List.drop_drop, List.drop_left, this]

theorem chunks_length (l : List UInt8) : (chunks l).length = l.length / 64 := by simp [chunks]
theorem chunks_get (l : List UInt8) (i : Nat) (h : i < l.length / 64) : (chunks l).getD i [] = (l.drop (64 * i)).take 64 := by simp [chunks, h]
theorem chunks_mem (l : List UInt8) : ∀ x ∈ chunks l, x.length = 64 := by
  intro x hx
  simp only [chunks, List.mem_map, List.mem_range] at hx
  obtain ⟨i, hi, rfl⟩ := hx
  rw [List.length_take, List.length_drop]
  omega
theorem chunks_step (l : List UInt8) (h : 64 ≤ l.length) : chunks l = l.take 64 :: chunks (l.drop 64) := by
  unfold chunks
  have e : l.length / 64 = (l.drop 64).length / 64 + 1 := by rw [List.length_drop]; omega
  rw [e, List.range_succ_eq_map]
  simp only [List.map_cons, List.map_map, Nat.mul_zero, List.drop_zero]
  congr 1
  apply List.map_congr_left
  intro i _
  simp only [Function.comp, Nat.succ_eq_add_one, List.drop_drop]
  congr 2
  omega
theorem chunks_flat (n : Nat) : ∀ l : List UInt8, l.length = 64 * n → (chunks l).flatten = l := by
  induction n with
  | zero => intro l h; simp [chunks, h]; exact List.eq_nil_of_length_eq_zero (by omega)
  | succ n ih =>
    intro l h
    rw [chunks_step l (by omega), List.flatten_cons, ih (l.drop 64) (by rw [List.length_drop]; omega), List.take_append_drop]
theorem pad_length (l : List UInt8) : (pad l).length = l.length + (64 - l.length % 64) % 64 := by simp [pad]
theorem pad_whole (l : List UInt8) : (pad l).length = 64 * ((pad l).length / 64) := by rw [pad_length]; omega
theorem load_flat (l : List UInt8) : (load l).S.flatten = pad l := chunks_flat _ _ (pad_whole l)
theorem load_length (l : List UInt8) : (load l).S.length = (l.length + 63) / 64 := by
  show (chunks (pad l)).length = _
  rw [chunks_length, pad_length]; omega
theorem load_ok (l : List UInt8) (h : (l.length + 63) / 64 ≤ 1048576) : Ok (load l) :=
  ⟨chunks_mem _, (fun x hx => by cases hx), Int.le_refl _, by rw [load_length]; exact h⟩
theorem fresh_ok (n : Nat) (h : n ≤ 1048576) : Ok (fresh n) :=
  ⟨fun x hx => by rw [(List.mem_replicate.1 hx).2]; simp, (fun x hx => by cases hx), Int.le_refl _, by simp [fresh, h]⟩
theorem fresh_flat (n : Nat) : (fresh n).S.flatten = List.replicate (64 * n) 0 := by
  show (List.replicate n (List.replicate 64 (0 : UInt8))).flatten = _
  rw [List.flatten_replicate_replicate, Nat.mul_comm]

theorem spendS_S (st : St) : (spendS st).S = st.S := by unfold spendS; split <;> (try split) <;> rfl
theorem spendS_P (st : St) : (spendS st).P = st.P := by unfold spendS; split <;> (try split) <;> rfl
theorem spend_ok {st : St} (h : Ok st) : Ok (spendS st) := by
  refine ⟨by rw [spendS_S]; exact h.sectors, by rw [spendS_S, spendS_P]; exact h.writes, ?_, by rw [spendS_S]; exact h.few⟩
  have := h.fuse
  unfold spendS
  split
  · exact this
  · split
    · exact this
    · show -1 ≤ (if 0 < st.fuse then st.fuse - 1 else st.fuse)
      split <;> omega
theorem put_ok {st : St} (h : Ok st) (k : Nat) (d : List UInt8) (hk : k < st.S.length) (hd : d.length = 64) : Ok (put st k d) := by
  refine ⟨h.sectors, fun x hx => ?_, h.fuse, h.few⟩
  rcases List.mem_append.1 hx with hx | hx
  · exact h.writes x hx
  · rw [List.mem_singleton.1 hx]; exact ⟨hk, hd⟩
theorem settle_length (S : List (List UInt8)) (P : List (Nat × List UInt8)) (keep : List Bool) : (settle S P keep).length = S.length := by
  induction P generalizing S keep with
  | nil => rfl
  | cons x P ih =>
    unfold settle
    rw [ih]
    split <;> simp
theorem settle_mem {S : List (List UInt8)} {P : List (Nat × List UInt8)} (keep : List Bool) (hS : ∀ x ∈ S, x.length = 64) (hP : ∀ x ∈ P, x.2.length = 64) : ∀ x ∈ settle S P keep, x.length = 64 := by
  induction P generalizing S keep with
  | nil => exact hS
  | cons y P ih =>
    unfold settle
    refine ih _ ?_ (fun x hx => hP x (List.mem_cons_of_mem _ hx))
    split
    · intro x hx
      rcases List.mem_or_eq_of_mem_set hx with h | h
      · exact hS x h
      · rw [h]; exact hP y List.mem_cons_self
    · exact hS
theorem settle_ok {st : St} (h : Ok st) (keep : List Bool) (f : Int) (d : Bool) (hf : -1 ≤ f) : Ok ⟨settle st.S st.P keep, [], f, d⟩ :=
  ⟨settle_mem keep h.sectors (fun x hx => (h.writes x hx).2), (fun x hx => by cases hx), hf, by rw [settle_length]; exact h.few⟩
theorem restart_ok {st : St} (h : Ok st) (keep : List Bool) : Ok (restart st keep) := settle_ok h keep _ _ (by decide)
theorem flush_ok {st : St} (h : Ok st) : Ok (flush st).1 := by
  unfold flush
  split
  · exact settle_ok h _ _ _ (spend_ok h).fuse
  · exact spend_ok h
theorem fail_ok {st : St} (h : Ok st) (n : Int) : Ok (fail st n) := ⟨h.sectors, h.writes, by show -1 ≤ max n (-1); omega, h.few⟩
theorem puts_ok {st : St} (h : Ok st) (k : Nat) (cs : List (List UInt8)) (hk : k + cs.length ≤ st.S.length) (hc : ∀ x ∈ cs, x.length = 64) : Ok (puts st k cs).1 ∧ (puts st k cs).1.S = st.S ∧ (puts st k cs).1.P.length ≤ st.P.length + cs.length := by
  induction cs generalizing st k with
  | nil => exact ⟨h, rfl, by simp [puts]⟩
  | cons c cs ih =>
    unfold puts
    split
    · have h1 : Ok (put (spendS st) k c) := put_ok (spend_ok h) k c (by rw [spendS_S]; simp at hk; omega) (hc c List.mem_cons_self)
      have hS : (put (spendS st) k c).S = st.S := spendS_S st
      have hP : (put (spendS st) k c).P.length = st.P.length + 1 := by show ((spendS st).P ++ [(k, c)]).length = _; rw [spendS_P]; simp
      obtain ⟨a1, a2, a3⟩ := ih h1 (k + 1) (by rw [hS]; simp at hk; omega) (fun x hx => hc x (List.mem_cons_of_mem _ hx))
      exact ⟨a1, a2.trans hS, by rw [hP] at a3; simp; omega⟩
    · exact ⟨spend_ok h, spendS_S st, by rw [spendS_P]; omega⟩
theorem there_iff (st : St) (a n : Int) : thereB st a n = true ↔ 0 ≤ a ∧ 0 ≤ n ∧ n ≤ (st.S.length : Int) - a := by simp [thereB]
theorem write_ok {st : St} (h : Ok st) (a : Int) (l : List UInt8) : Ok (write st a l).1 ∧ (write st a l).1.S = st.S ∧ (write st a l).1.P.length ≤ st.P.length + l.length / 64 := by
  unfold write
  split
  · exact ⟨h, rfl, Nat.le_add_right _ _⟩
  · split
    · split
      · rename_i ht
        obtain ⟨h1, h2, h3⟩ := (there_iff _ _ _).1 ht
        have := puts_ok h a.toNat (chunks l) (by rw [chunks_length]; omega) (chunks_mem l)
        rw [chunks_length] at this
        exact this
      · exact ⟨h, rfl, Nat.le_add_right _ _⟩
    · exact ⟨h, rfl, Nat.le_add_right _ _⟩
theorem last_snoc (P : List (Nat × List UInt8)) (k j : Nat) (d e : List UInt8) : last (P ++ [(j, e)]) k d = if j = k then e else last P k d := by simp [last]
theorem last_length {P : List (Nat × List UInt8)} (hP : ∀ x ∈ P, x.2.length = 64) (k : Nat) (d : List UInt8) (hd : d.length = 64) : (last P k d).length = 64 := by
  unfold last
  induction P generalizing d with
  | nil => exact hd
  | cons x P ih =>
    simp only [List.foldl_cons]
    refine ih (fun y hy => hP y (List.mem_cons_of_mem _ hy)) _ ?_
    split
    · exact hP x List.mem_cons_self
    · exact hd
theorem last_none {P : List (Nat × List UInt8)} {k : Nat} (h : ∀ x ∈ P, x.1 ≠ k) (d : List UInt8) : last P k d = d := by
  unfold last
  induction P generalizing d with
  | nil => rfl
  | cons x P ih =>
    simp only [List.foldl_cons]
    rw [if_neg (h x List.mem_cons_self)]
    exact ih (fun y hy => h y (List.mem_cons_of_mem _ hy)) d
theorem getD_mem {S : List (List UInt8)} {k : Nat} (h : k < S.length) : S.getD k [] ∈ S := by
  rw [List.getD_eq_getElem?_getD, List.getElem?_eq_getElem h]
  exact List.getElem_mem h
theorem one_length {st : St} (h : Ok st) (k : Nat) (hk : k < st.S.length) : (one st k).length = 64 :=
  last_length (fun x hx => (h.writes x hx).2) k _ (h.sectors _ (getD_mem hk))
theorem span_succ (st : St) (a n : Nat) : span st a (n + 1) = span st a n ++ one st (a + n) := by simp [span, List.range_succ]
theorem span_length {st : St} (h : Ok st) (a n : Nat) (hn : a + n ≤ st.S.length) : (span st a n).length = 64 * n := by
  induction n with
  | zero => rfl
  | succ n ih => rw [span_succ, List.length_append, ih (by omega), one_length h _ (by omega)]; omega
end Dm
end Go.Proofs.Ytbmabcddciibfaa