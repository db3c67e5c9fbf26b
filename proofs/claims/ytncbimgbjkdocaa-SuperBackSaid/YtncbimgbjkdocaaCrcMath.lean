/- Plain mathematics of sums over bytes: no program is named. -/
import Derived.KernelRfl
import Derived.Test.YtncbimgbjkdocaaOctetMath
namespace Go.Proofs.Ytncbimgbjkdocaa
namespace Cm

/-- The remainder with one more bit 0 behind it. -/
def step (x : Nat) : Nat := if x % 2 = 0 then x / 2 else x / 2 ^^^ 3988292384
theorem step_lt (x : Nat) (h : x < 4294967296) : step x < 4294967296 := by
  unfold step
  split
  · omega
  · exact Nat.xor_lt_two_pow (n := 32) (by omega) (by decide)
def steps (n x : Nat) : Nat := match n with
  | 0 => x
  | n + 1 => step (steps n x)
theorem steps_lt (n x : Nat) (h : x < 4294967296) : steps n x < 4294967296 := by
  induction n with
  | zero => exact h
  | succ n ih => exact step_lt _ ih
def tbl (h : Nat) : Nat := steps 4 h
theorem tbl_lt (h : Nat) (hh : h < 16) : tbl h < 4294967296 := steps_lt 4 h (by omega)
def half (x : Nat) : Nat := x / 16 ^^^ tbl (x % 16)
theorem half_lt (x : Nat) (h : x < 4294967296) : half x < 4294967296 :=
  Nat.xor_lt_two_pow (n := 32) (by omega) (tbl_lt _ (by omega))
def halves (n x : Nat) : Nat := match n with
  | 0 => x
  | n + 1 => half (halves n x)
theorem halves_lt (n x : Nat) (h : x < 4294967296) : halves n x < 4294967296 := by
  induction n with
  | zero => exact h
  | succ n ih => exact half_lt _ ih
def byte (c : Nat) (b : UInt8) : Nat := halves 2 (c ^^^ b.toNat)
theorem mix_lt (c : Nat) (b : UInt8) (h : c < 4294967296) : c ^^^ b.toNat < 4294967296 :=
  Nat.xor_lt_two_pow (n := 32) h (by have := b.toNat_lt; omega)
theorem byte_lt (c : Nat) (b : UInt8) (h : c < 4294967296) : byte c b < 4294967296 := halves_lt 2 _ (mix_lt c b h)
/-- The remainder behind some bytes. -/
def run (c : Nat) (l : List UInt8) : Nat := l.foldl byte c
theorem run_lt (c : Nat) (l : List UInt8) (h : c < 4294967296) : run c l < 4294967296 := by
  induction l generalizing c with
  | nil => exact h
  | cons b r ih => exact ih _ (byte_lt c b h)
theorem run_append (c : Nat) (a b : List UInt8) : run c (a ++ b) = run (run c a) b := List.foldl_append
theorem run_cons (c : Nat) (b : UInt8) (r : List UInt8) : run c (b :: r) = run (byte c b) r := rfl
/-- The sum of some bytes. -/
def sum (l : List UInt8) : Nat := 4294967295 - run 4294967295 l
theorem sum_lt (l : List UInt8) : sum l < 4294967296 := by unfold sum; omega
theorem not_eq (x : Nat) (h : x < 4294967296) : 4294967295 - x = 4294967295 ^^^ x := by
  have e := @BitVec.toNat_not 32 (BitVec.ofNat 32 x)
  rw [← BitVec.xor_allOnes, BitVec.xor_comm, BitVec.toNat_xor, BitVec.toNat_allOnes, BitVec.toNat_ofNat, Nat.mod_eq_of_lt (by omega)] at e
  exact e.symm

/- Even. -/
theorem xor4 (a b c d : Nat) : (a ^^^ b) ^^^ (c ^^^ d) = (a ^^^ c) ^^^ (b ^^^ d) := by
  rw [Nat.xor_assoc, ← Nat.xor_assoc b c d, Nat.xor_comm b c, Nat.xor_assoc c b d, ← Nat.xor_assoc]
theorem step_eq (x : Nat) : step x = x / 2 ^^^ (x % 2 * 3988292384) := by
  unfold step
  split
  · next h => rw [h]; simp
  · next h => rw [show x % 2 = 1 by omega, Nat.one_mul]
theorem mul_xor (a b k : Nat) (ha : a < 2) (hb : b < 2) : (a ^^^ b) * k = a * k ^^^ b * k := by
  have : a = 0 ∨ a = 1 := by omega
  have : b = 0 ∨ b = 1 := by omega
  rcases ‹a = 0 ∨ a = 1› with rfl | rfl <;> rcases ‹b = 0 ∨ b = 1› with rfl | rfl <;> simp
theorem step_xor (a b : Nat) : step (a ^^^ b) = step a ^^^ step b := by
  rw [step_eq, step_eq, step_eq, xor4]
  have h1 : (a ^^^ b) / 2 = a / 2 ^^^ b / 2 := Nat.xor_div_two
  have h2 : (a ^^^ b) % 2 = a % 2 ^^^ b % 2 := Nat.xor_mod_two_pow (n := 1)
  rw [h1, h2, mul_xor _ _ _ (by omega) (by omega)]
theorem steps_xor (n a b : Nat) : steps n (a ^^^ b) = steps n a ^^^ steps n b := by
  induction n with
  | zero => rfl
  | succ n ih => rw [steps, ih, step_xor]; rfl
theorem half_xor (a b : Nat) : half (a ^^^ b) = half a ^^^ half b := by
  unfold half tbl
  have h1 : (a ^^^ b) / 16 = a / 16 ^^^ b / 16 := Nat.xor_div_two_pow (n := 4)
  have h2 : (a ^^^ b) % 16 = a % 16 ^^^ b % 16 := Nat.xor_mod_two_pow (n := 4)
  rw [h1, h2, steps_xor, xor4]
theorem halves_xor (n a b : Nat) : halves n (a ^^^ b) = halves n a ^^^ halves n b := by
  induction n with
  | zero => rfl
  | succ n ih => rw [halves, ih, half_xor]; rfl
theorem u8_xor_nat (a b : UInt8) : (a ^^^ b).toNat = a.toNat ^^^ b.toNat := UInt8.toNat_xor a b
theorem byte_xor (c d : Nat) (a b : UInt8) : byte (c ^^^ d) (a ^^^ b) = byte c a ^^^ byte d b := by
  unfold byte
  rw [u8_xor_nat, ← halves_xor, xor4]
/-- All bits of three texts of one length, each turned as often as it stands there. -/
def all3 (a b c : List UInt8) : List UInt8 := (a.zip (b.zip c)).map fun p => p.1 ^^^ p.2.1 ^^^ p.2.2
theorem run_all3 (a b c : List UInt8) (x y z : Nat) (hb : b.length = a.length) (hc : c.length = a.length) :
    run (x ^^^ y ^^^ z) (all3 a b c) = run x a ^^^ run y b ^^^ run z c := by
  induction a generalizing b c x y z with
  | nil =>
    have e1 := List.length_eq_zero_iff.1 hb
    have e2 := List.length_eq_zero_iff.1 hc
    subst e1 e2
    rfl
  | cons p a ih =>
    cases b with
    | nil => simp at hb
    | cons q b =>
      cases c with
      | nil => simp at hc
      | cons r c =>
        simp only [List.length_cons, Nat.add_right_cancel_iff] at hb hc
        show run (byte (x ^^^ y ^^^ z) (p ^^^ q ^^^ r)) (all3 a b c) = _
        rw [byte_xor, byte_xor, ih b c _ _ _ hb hc]
        rfl
theorem sum_all3 (a b c : List UInt8) (hb : b.length = a.length) (hc : c.length = a.length) : sum (all3 a b c) = sum a ^^^ sum b ^^^ sum c := by
  unfold sum
  have hF : ∀ l, run 4294967295 l < 4294967296 := fun l => run_lt _ l (by omega)
  rw [not_eq _ (hF _), not_eq _ (hF _), not_eq _ (hF _), not_eq _ (hF _)]
  have h := run_all3 a b c 4294967295 4294967295 4294967295 hb hc
  rw [Nat.xor_self, Nat.zero_xor] at h
  rw [h]
  generalize run 4294967295 a = x
  generalize run 4294967295 b = y
  generalize run 4294967295 c = z
  generalize 4294967295 = F
  have e : F ^^^ (x ^^^ y ^^^ z) = (F ^^^ F ^^^ F) ^^^ (x ^^^ y ^^^ z) := by rw [Nat.xor_self, Nat.zero_xor]
  rw [e]
  ac_rfl

/- One byte. -/
theorem tbl_high (h : Nat) (hh : h < 16) (h0 : h ≠ 0) : 268435456 ≤ tbl h := by
  have : ∀ k : Fin 16, k.val ≠ 0 → 268435456 ≤ tbl k.val := by decide
  exact this ⟨h, hh⟩ h0
theorem eq_of_xor {a b : Nat} (h : a ^^^ b = 0) : a = b := by
  have e : (a ^^^ b) ^^^ b = b := by rw [h, Nat.zero_xor]
  rwa [Nat.xor_assoc, Nat.xor_self, Nat.xor_zero] at e
theorem half_zero (x : Nat) (hx : x < 4294967296) (h : half x = 0) : x = 0 := by
  have e := eq_of_xor h
  by_cases h0 : x % 16 = 0
  · rw [h0] at e
    have : tbl 0 = 0 := by decide
    omega
  · have := tbl_high (x % 16) (by omega) h0
    omega
theorem half_inj (a b : Nat) (ha : a < 4294967296) (hb : b < 4294967296) (h : half a = half b) : a = b := by
  apply eq_of_xor
  apply half_zero _ (Nat.xor_lt_two_pow (n := 32) ha hb)
  rw [half_xor, h, Nat.xor_self]
theorem halves_inj (n a b : Nat) (ha : a < 4294967296) (hb : b < 4294967296) (h : halves n a = halves n b) : a = b := by
  induction n with
  | zero => exact h
  | succ n ih => exact ih (half_inj _ _ (halves_lt n a ha) (halves_lt n b hb) h)
theorem xor_left {a b c : Nat} (h : a ^^^ b = a ^^^ c) : b = c := by
  have e : a ^^^ (a ^^^ b) = a ^^^ (a ^^^ c) := by rw [h]
  rwa [← Nat.xor_assoc, ← Nat.xor_assoc, Nat.xor_self, Nat.zero_xor, Nat.zero_xor] at e
theorem byte_inj (c d : Nat) (b : UInt8) (hc : c < 4294967296) (hd : d < 4294967296) (h : byte c b = byte d b) : c = d := by
  have e := halves_inj 2 _ _ (mix_lt c b hc) (mix_lt d b hd) h
  rw [Nat.xor_comm c, Nat.xor_comm d] at e
  exact xor_left e
theorem byte_inj2 (c : Nat) (a b : UInt8) (hc : c < 4294967296) (h : byte c a = byte c b) : a = b :=
  UInt8.toNat_inj.1 (xor_left (halves_inj 2 _ _ (mix_lt c a hc) (mix_lt c b hc) h))
theorem run_inj (l : List UInt8) (c d : Nat) (hc : c < 4294967296) (hd : d < 4294967296) (h : run c l = run d l) : c = d := by
  induction l generalizing c d with
  | nil => exact h
  | cons b r ih => exact byte_inj c d b hc hd (ih _ _ (byte_lt c b hc) (byte_lt d b hd) h)
/-- One byte is another one: the sum is another one. -/
theorem sum_set (l : List UInt8) (k : Nat) (b : UInt8) (hk : k < l.length) (h : sum (l.set k b) = sum l) : l.set k b = l := by
  have e : l = l.take k ++ l[k] :: l.drop (k + 1) := by rw [List.getElem_cons_drop, List.take_append_drop]
  have e' : l.set k b = l.take k ++ b :: l.drop (k + 1) := by rw [List.set_eq_take_append_cons_drop, if_pos hk]
  have hF : ∀ l, run 4294967295 l < 4294967296 := fun l => run_lt _ l (by omega)
  have h1 := hF (l.set k b)
  have h2 := hF l
  have hr : run 4294967295 (l.set k b) = run 4294967295 l := by unfold sum at h; omega
  rw [e', show run 4294967295 l = run 4294967295 (l.take k ++ l[k] :: l.drop (k + 1)) from congrArg _ e, run_append, run_append, run_cons, run_cons] at hr
  have hx := hF (l.take k)
  have hb := byte_inj2 _ _ _ hx (run_inj _ _ _ (byte_lt _ _ hx) (byte_lt _ _ hx) hr)
  rw [e', hb]
  exact e.symm

/-- The four bytes of a sum. -/
def four (l : List UInt8) : List UInt8 := Om.low (sum l) 4
theorem four_length (l : List UInt8) : (four l).length = 4 := Om.low_length _ _
theorem four_inj (a b : List UInt8) (h : four a = four b) : sum a = sum b := by
  have e : Om.num (four a) = Om.num (four b) := by rw [h]
  unfold four at e
  rw [Om.num_low, Om.num_low, Nat.mod_eq_of_lt (sum_lt a), Nat.mod_eq_of_lt (sum_lt b)] at e
  exact e
/-- Is what stands last the sum of what stands ahead? -/
def good (l : List UInt8) : Bool := l.drop (l.length - 4) == four (l.take (l.length - 4))
theorem good_sealed (p : List UInt8) : good (p ++ four p) = true := by
  unfold good
  have : (p ++ four p).length - 4 = p.length := by rw [List.length_append, four_length]; omega
  rw [this, List.drop_left, List.take_left]
  exact beq_self_eq_true _
/-- Sealed bytes of which one byte is another one are not opened. -/
theorem good_set (p : List UInt8) (k : Nat) (b : UInt8) (hk : k < p.length + 4) (h : good ((p ++ four p).set k b) = true) : (p ++ four p).set k b = p ++ four p := by
  have hl : ((p ++ four p).set k b).length - 4 = p.length := by rw [List.length_set, List.length_append, four_length]; omega
  unfold good at h
  rw [hl, beq_iff_eq] at h
  by_cases hp : k < p.length
  · rw [List.set_append_left _ _ hp] at h ⊢
    have e1 : (p.set k b ++ four p).take p.length = p.set k b := by
      have := List.take_left (l₁ := p.set k b) (l₂ := four p)
      rwa [List.length_set] at this
    have e2 : (p.set k b ++ four p).drop p.length = four p := by
      have := List.drop_left (l₁ := p.set k b) (l₂ := four p)
      rwa [List.length_set] at this
    rw [e1, e2] at h
    rw [sum_set p k b hp (four_inj _ _ h).symm]
  · rw [List.set_append_right _ _ (by omega)] at h ⊢
    rw [List.drop_left, List.take_left] at h
    rw [h]
end Cm
end Go.Proofs.Ytncbimgbjkdocaa
