/- Plain mathematics of the document's own sum, bit by bit: it is the sum that the program's tables give. No program is named. -/
import Derived.Test.YtncbimgbjkdocaaCrcMath
namespace Go.Proofs.Ytncbimgbjkdocaa
namespace Cm

theorem steps_add (m n x : Nat) : steps (m + n) x = steps m (steps n x) := by
  induction m with
  | zero => rw [Nat.zero_add]; rfl
  | succ m ih => rw [Nat.add_right_comm, steps, ih]; rfl
theorem step_even (y : Nat) : step (2 * y) = y := by
  unfold step
  rw [if_pos (by omega)]
  omega
theorem steps4 (q : Nat) : steps 4 (16 * q) = q := by
  show step (step (step (step (16 * q)))) = q
  rw [show 16 * q = 2 * (2 * (2 * (2 * q))) by omega, step_even, step_even, step_even, step_even]
theorem split16 (x : Nat) : x = 16 * (x / 16) ^^^ x % 16 := by
  have h := Nat.shiftLeft_add_eq_or_of_lt (a := x / 16) (b := x % 16) (i := 4) (by omega)
  have h2 := Nat.two_pow_add_eq_or_of_lt (i := 4) (b := x % 16) (by omega) (x / 16)
  apply Nat.eq_of_testBit_eq
  intro i
  rw [Nat.testBit_xor]
  by_cases hi : i < 4
  · have e1 : (16 * (x / 16)).testBit i = false := by
      rw [show 16 * (x / 16) = 2 ^ 4 * (x / 16) by omega, Nat.testBit_two_pow_mul]
      simp; omega
    have e2 : (x % 16).testBit i = x.testBit i := by
      rw [show x % 16 = x % 2 ^ 4 by rfl, Nat.testBit_mod_two_pow]
      simp [hi]
    rw [e1, e2, Bool.false_xor]
  · have e1 : (16 * (x / 16)).testBit i = x.testBit i := by
      rw [show 16 * (x / 16) = 2 ^ 4 * (x / 2 ^ 4) by omega, Nat.testBit_two_pow_mul, Nat.testBit_div_two_pow]
      rw [show i - 4 + 4 = i by omega]
      simp; omega
    have e2 : (x % 16).testBit i = false := by
      rw [show x % 16 = x % 2 ^ 4 by rfl, Nat.testBit_mod_two_pow]
      simp [hi]
    rw [e1, e2, Bool.xor_false]
theorem half_steps (x : Nat) : half x = steps 4 x := by
  unfold half tbl
  conv => rhs; rw [split16 x, steps_xor, steps4]
theorem halves2 (x : Nat) : halves 2 x = steps 8 x := by
  show half (half x) = _
  rw [half_steps, half_steps, ← steps_add]

/-- The bit at a place of some bytes, the lowest of each byte first. -/
def obit (l : List UInt8) (j : Nat) : Bool := (l.getD (j / 8) 0).toNat.testBit (j % 8)
theorem obit_out (l : List UInt8) (j : Nat) (h : 8 * l.length ≤ j) : obit l j = false := by
  unfold obit
  rw [List.getD_eq_getElem?_getD, List.getElem?_eq_none (by omega)]
  simp
/-- The remainder behind so many bits. -/
def creg (l : List UInt8) : Nat → Nat
  | 0 => 4294967295
  | i + 1 => step (creg l i ^^^ (obit l i).toNat)
theorem creg_lt (l : List UInt8) (i : Nat) : creg l i < 4294967296 := by
  induction i with
  | zero => exact (by decide : (4294967295 : Nat) < 4294967296)
  | succ i ih => exact step_lt _ (Nat.xor_lt_two_pow (n := 32) ih (by cases obit l i <;> decide))
theorem low_off (y : Nat) : step (y ^^^ y % 2) = y / 2 := by
  rw [step_xor, step_eq, step_eq]
  have e1 : y % 2 / 2 = 0 := by omega
  have e2 : y % 2 % 2 = y % 2 := by omega
  rw [e1, e2, Nat.zero_xor, Nat.xor_assoc, Nat.xor_self, Nat.xor_zero]
theorem creg_in (l : List UInt8) (k m : Nat) (hm : m ≤ 8) (b : Nat) (hb : b = (l.getD k 0).toNat) : creg l (8 * k + m) = steps m (creg l (8 * k) ^^^ b) ^^^ b / 2 ^ m := by
  induction m with
  | zero => rw [Nat.add_zero, Nat.pow_zero, Nat.div_one, steps, Nat.xor_assoc, Nat.xor_self, Nat.xor_zero]
  | succ m ih =>
    have ho : (obit l (8 * k + m)).toNat = b / 2 ^ m % 2 := by
      unfold obit
      rw [show (8 * k + m) / 8 = k by omega, show (8 * k + m) % 8 = m by omega, ← hb, Nat.toNat_testBit]
    rw [← Nat.add_assoc, creg, ih (by omega), ho, Nat.xor_assoc, step_xor, low_off, steps, Nat.pow_succ, Nat.div_div_eq_div_mul]
theorem creg_run (l : List UInt8) (k : Nat) (h : k ≤ l.length) : creg l (8 * k) = run 4294967295 (l.take k) := by
  induction k with
  | zero => rfl
  | succ k ih =>
    have hb := creg_in l k 8 (Nat.le_refl _) _ rfl
    rw [show 8 * (k + 1) = 8 * k + 8 by omega, hb, ih (by omega)]
    have hlt := (l.getD k 0).toNat_lt
    rw [Nat.div_eq_of_lt (by omega), Nat.xor_zero, List.take_succ_eq_append_getElem (by omega), run_append]
    show _ = byte _ _
    unfold byte
    rw [halves2, List.getD_eq_getElem?_getD, List.getElem?_eq_getElem (by omega)]
    rfl
theorem creg_sum (l : List UInt8) : sum l = 4294967295 - creg l (8 * l.length) := by
  rw [creg_run l _ (Nat.le_refl _), List.take_length]
  rfl

/-- Turned at one place. -/
def flip (f : Nat → Bool) (j : Nat) : Nat → Bool := fun k => if k = j then !f k else f k
def put1 (f : Nat → Bool) (j : Nat) (b : Bool) : Nat → Bool := fun k => if k = j then b else f k
theorem flip_put (f : Nat → Bool) (j : Nat) : put1 f j (!f j) = flip f j := by
  funext k
  unfold put1 flip
  split
  · next h => rw [h]
  · rfl
def termL : List Nat := [26, 23, 22, 16, 12, 11, 10, 8, 7, 5, 4, 2, 1, 0]
def term (k : Nat) : Nat := termL.getD k 0
theorem term_le (k : Nat) : term k ≤ 26 := by
  by_cases h : k < 14
  · have : ∀ k : Fin 14, term k.val ≤ 26 := by decide
    exact this ⟨k, h⟩
  · unfold term
    rw [List.getD_eq_getElem?_getD, List.getElem?_eq_none (by simp [termL]; omega)]
    simp
/-- The first k terms turned, at i. -/
def flips (f : Nat → Bool) (i : Nat) : Nat → Nat → Bool
  | 0 => f
  | k + 1 => flip (flips f i k) (i + 32 - term k)
/-- What stands behind so many bits. -/
def gone (f : Nat → Bool) : Nat → Nat → Bool
  | 0 => f
  | i + 1 => if gone f i i then flips (put1 (gone f i) i false) i 14 else gone f i
def par (d : Nat) : Nat → Bool
  | 0 => false
  | k + 1 => par d k ^^ decide (d = 32 - term k)
theorem flips_par (f : Nat → Bool) (i j k : Nat) (h : i ≤ j) : flips f i k j = (f j ^^ par (j - i) k) := by
  induction k with
  | zero => simp [flips, par]
  | succ k ih =>
    have ht := term_le k
    unfold flips flip par
    rw [ih]
    by_cases e : j = i + 32 - term k
    · have e2 : j - i = 32 - term k := by omega
      rw [if_pos e]
      simp only [e2, decide_true]
      cases f j <;> cases par (32 - term k) k <;> rfl
    · have e2 : ¬ j - i = 32 - term k := by omega
      rw [if_neg e]
      simp [e2]
theorem par_far (d k : Nat) (h : 32 < d) : par d k = false := by
  induction k with
  | zero => rfl
  | succ k ih =>
    unfold par
    rw [ih]
    have : ¬ d = 32 - term k := by omega
    simp [this]
theorem par_poly (d : Nat) (h : 1 ≤ d) : par d 14 = (3988292384 : Nat).testBit (d - 1) := by
  by_cases h32 : d ≤ 32
  · have : ∀ d : Fin 33, 1 ≤ d.val → par d.val 14 = (3988292384 : Nat).testBit (d.val - 1) := by decide
    exact this ⟨d, by omega⟩ h
  · rw [par_far d 14 (by omega), Nat.testBit_lt_two_pow]
    refine Nat.lt_of_lt_of_le (show 3988292384 < 2 ^ 32 by decide) (Nat.pow_le_pow_right (by omega) (by omega))
theorem step_bit (x k : Nat) : (step x).testBit k = (x.testBit (k + 1) ^^ (x.testBit 0 && (3988292384 : Nat).testBit k)) := by
  rw [step_eq, Nat.testBit_xor, Nat.testBit_div_two, Nat.testBit_zero]
  have : x % 2 = 0 ∨ x % 2 = 1 := by omega
  rcases this with e | e
  · rw [e]; simp
  · rw [e]; simp
/-- The bits ahead of the dividing: the first 32 are turned. -/
def first (l : List UInt8) : Nat → Bool := fun j => obit l j ^^ decide (j < 32)
theorem gone_is (l : List UInt8) (i j : Nat) (h : i ≤ j) : gone (first l) i j = (obit l j ^^ (creg l i).testBit (j - i)) := by
  induction i generalizing j with
  | zero =>
    unfold gone first creg
    rw [Nat.sub_zero, show (4294967295 : Nat) = 2 ^ 32 - 1 by decide, Nat.testBit_two_pow_sub_one]
  | succ i ih =>
    have h0 := ih i (Nat.le_refl _)
    have hj := ih j (by omega)
    rw [Nat.sub_self] at h0
    have hc : (creg l (i + 1)).testBit (j - (i + 1)) = ((creg l i).testBit (j - i) ^^ (gone (first l) i i && (3988292384 : Nat).testBit (j - (i + 1)))) := by
      rw [creg, step_bit, show j - (i + 1) + 1 = j - i by omega, Nat.testBit_xor, Nat.testBit_xor, h0]
      have e1 : ((obit l i).toNat).testBit (j - i) = false := by
        apply Nat.testBit_lt_two_pow
        have : 2 ^ 1 ≤ 2 ^ (j - i) := Nat.pow_le_pow_right (by omega) (by omega)
        cases obit l i <;> simp <;> omega
      have e2 : ((obit l i).toNat).testBit 0 = obit l i := by cases obit l i <;> rfl
      rw [e1, e2, Bool.xor_false, Bool.xor_comm (obit l i)]
    unfold gone
    rw [hc]
    cases hg : gone (first l) i i with
    | false => rw [if_neg (by decide), hj, Bool.false_and, Bool.xor_false]
    | true =>
      rw [if_pos rfl, flips_par _ _ _ _ (by omega), par_poly _ (by omega), show put1 (gone (first l) i) i false j = gone (first l) i j from if_neg (by omega), hj, Bool.true_and, show j - i - 1 = j - (i + 1) by omega, Bool.xor_assoc]
theorem not_bit (c k : Nat) (hc : c < 4294967296) (hk : k < 32) : (4294967295 - c).testBit k = !c.testBit k := by
  have h := Nat.testBit_two_pow_sub_succ (n := 32) (x := c) hc k
  rw [show 4294967295 - c = 2 ^ 32 - (c + 1) by omega, h]
  simp [hk]
/-- The bits of the sum: those that stand last, turned. -/
theorem sum_bit (l : List UInt8) (k : Nat) (hk : k < 32) : (!gone (first l) (8 * l.length) (8 * l.length + k)) = (sum l).testBit k := by
  rw [gone_is _ _ _ (by omega), obit_out l _ (by omega), Bool.false_xor, creg_sum, not_bit _ _ (creg_lt _ _) hk, show 8 * l.length + k - 8 * l.length = k by omega]
theorem top_next (s m : Nat) (hm : m < 32) : s / 2 ^ (32 - (m + 1)) = 2 * (s / 2 ^ (32 - m)) + (s.testBit (31 - m)).toNat := by
  rw [Nat.toNat_testBit, show 32 - (m + 1) = 31 - m by omega, show 32 - m = (31 - m) + 1 by omega, Nat.pow_succ, ← Nat.div_div_eq_div_mul]
  omega
end Cm
end Go.Proofs.Ytncbimgbjkdocaa
