/- Plain mathematics of heads: no program is named. -/
import Derived.Test.YtpocafiihdnnlaaSecMath
namespace Go.Proofs.Ytpocafiihdnnlaa
namespace Hm

/-- May a head be? -/
def okH (g : Nat) (c p : Int) : Bool := decide (1 ≤ g) && decide (1 ≤ c) && decide (c ≤ 128) && decide (1 ≤ p) && decide (p ≤ 1048576)
theorem okH_iff (g : Nat) (c p : Int) : okH g c p = true ↔ 1 ≤ g ∧ 1 ≤ c ∧ c ≤ 128 ∧ 1 ≤ p ∧ p ≤ 1048576 := by
  simp only [okH, Bool.and_eq_true, decide_eq_true_eq, and_assoc]
def bit (b : Bool) : Nat := if b = true then 1 else 0
theorem bit_le (b : Bool) : bit b ≤ 1 := by cases b <;> decide
def ts : List UInt8 := [79, 65, 75, 72]
def zs : List Int := [4, 2, 4, 1]
theorem lay : Sc.Lay ts zs := ⟨rfl, by decide, by decide⟩
theorem zs_off : Om.off zs zs.length = 11 := by decide
def nums (g : Nat) (c p : Int) (b : Bool) : List Nat := [g, c.toNat, p.toNat, bit b]
theorem fit (g : Nat) (c p : Int) (b : Bool) (hg : g < 4294967296) (h : okH g c p = true) : Om.fitAll zs (nums g c p b) zs.length = true := by
  obtain ⟨h1, h2, h3, h4, h5⟩ := (okH_iff g c p).1 h
  have hb := bit_le b
  rw [Om.fitAll_iff]
  intro i hi
  have hi' : i < 4 := hi
  match i, hi' with
  | 0, _ => show g < 256 ^ 4; omega
  | 1, _ => show c.toNat < 256 ^ 2; omega
  | 2, _ => show p.toNat < 256 ^ 4; omega
  | 3, _ => show bit b < 256 ^ 1; omega
theorem join_is (g : Nat) (c p : Int) (b : Bool) (hg : g < 4294967296) (h : okH g c p = true) : joinS zs (nums g c p b) = Om.joined zs (nums g c p b) zs.length ∧ joinE zs (nums g c p b) = 0 :=
  join_ok zs (nums g c p b) rfl (by decide) (fit g c p b hg h)
/-- A head's sector. -/
def sector (g : Nat) (c p : Int) (b : Bool) : List UInt8 := Sc.sector ts zs (nums g c p b)
theorem sector_len (g : Nat) (c p : Int) (b : Bool) : (sector g c p b).length = 64 := Sc.sector_len lay _
def encS (g : Nat) (c p : Int) (b : Bool) : List UInt8 := if okH g c p = true then sector g c p b else []
def encE (g : Nat) (c p : Int) : Int := if okH g c p = true then 0 else 1
theorem enc_ok {g : Nat} {c p : Int} (b : Bool) (h : okH g c p = true) : encS g c p b = sector g c p b ∧ encE g c p = 0 := by
  unfold encS encE; rw [if_pos h, if_pos h]; exact ⟨rfl, rfl⟩
theorem enc_no {g : Nat} {c p : Int} (b : Bool) (h : okH g c p = false) : encS g c p b = [] ∧ encE g c p = 1 := by
  unfold encS encE; rw [if_neg (by rw [h]; decide), if_neg (by rw [h]; decide)]; exact ⟨rfl, rfl⟩

/-- What the bytes behind the letters say: may it be? -/
def okN (a b c d : Nat) : Bool := okH a b c && decide (d ≤ 1)
/-- What is told of any bytes. -/
def decE (s : List UInt8) : Int := if Sc.opE ts zs s = 0 then if okN (Sc.numAt zs s 0) (Sc.numAt zs s 1) (Sc.numAt zs s 2) (Sc.numAt zs s 3) = true then 0 else 32 else Sc.opE ts zs s
def decG (s : List UInt8) : Nat := if decE s = 0 then Sc.numAt zs s 0 else 0
def decC (s : List UInt8) : Nat := if decE s = 0 then Sc.numAt zs s 1 else 0
def decP (s : List UInt8) : Nat := if decE s = 0 then Sc.numAt zs s 2 else 0
def decB (s : List UInt8) : Bool := if decE s = 0 then Sc.numAt zs s 3 == 1 else false
theorem dec_none (s : List UInt8) (h : decE s ≠ 0) : decG s = 0 ∧ decC s = 0 ∧ decP s = 0 ∧ decB s = false := by
  unfold decG decC decP decB; rw [if_neg h, if_neg h, if_neg h, if_neg h]; exact ⟨rfl, rfl, rfl, rfl⟩
theorem dec_off (s : List UInt8) (x : Int) (h : Sc.opE ts zs s = x) (hx : x ≠ 0) : decE s = x ∧ decG s = 0 ∧ decC s = 0 ∧ decP s = 0 ∧ decB s = false := by
  have e : decE s = x := by unfold decE; rw [h, if_neg hx]
  exact ⟨e, dec_none s (by rw [e]; exact hx)⟩
theorem dec_form (s : List UInt8) (h : Sc.opE ts zs s = 0) (ho : okN (Sc.numAt zs s 0) (Sc.numAt zs s 1) (Sc.numAt zs s 2) (Sc.numAt zs s 3) = false) : decE s = 32 ∧ decG s = 0 ∧ decC s = 0 ∧ decP s = 0 ∧ decB s = false := by
  have e : decE s = 32 := by unfold decE; rw [if_pos h, if_neg (by rw [ho]; decide)]
  exact ⟨e, dec_none s (by rw [e]; decide)⟩
theorem dec_ok (s : List UInt8) (h : Sc.opE ts zs s = 0) (ho : okN (Sc.numAt zs s 0) (Sc.numAt zs s 1) (Sc.numAt zs s 2) (Sc.numAt zs s 3) = true) :
    decE s = 0 ∧ decG s = Sc.numAt zs s 0 ∧ decC s = Sc.numAt zs s 1 ∧ decP s = Sc.numAt zs s 2 ∧ decB s = (Sc.numAt zs s 3 == 1) := by
  have e : decE s = 0 := by unfold decE; rw [if_pos h, if_pos ho]
  unfold decG decC decP decB; rw [if_pos e, if_pos e, if_pos e, if_pos e]; exact ⟨e, rfl, rfl, rfl, rfl⟩
theorem dec_zero (s : List UInt8) (h : decE s = 0) : Sc.opE ts zs s = 0 ∧ okN (Sc.numAt zs s 0) (Sc.numAt zs s 1) (Sc.numAt zs s 2) (Sc.numAt zs s 3) = true := by
  unfold decE at h
  by_cases h1 : Sc.opE ts zs s = 0
  · rw [if_pos h1] at h
    by_cases h2 : okN (Sc.numAt zs s 0) (Sc.numAt zs s 1) (Sc.numAt zs s 2) (Sc.numAt zs s 3) = true
    · exact ⟨h1, h2⟩
    · rw [if_neg h2] at h; cases h
  · rw [if_neg h1] at h; exact absurd h h1
theorem at_lt (zs' : List Int) (s : List UInt8) (i k : Nat) (h : (zs'.getD i 0).toNat ≤ k) : Sc.numAt zs' s i < 256 ^ k := by
  unfold Sc.numAt Om.at_
  have h1 := Om.num_lt ((((s.take 60).drop 4).drop (Om.off zs' i)).take (zs'.getD i 0).toNat)
  have h2 : 256 ^ ((((s.take 60).drop 4).drop (Om.off zs' i)).take (zs'.getD i 0).toNat).length ≤ 256 ^ k := Nat.pow_le_pow_right (by omega) (by rw [List.length_take]; exact Nat.le_trans (Nat.min_le_left _ _) h)
  omega
theorem gen_lt (s : List UInt8) : Sc.numAt zs s 0 < 4294967296 := at_lt zs s 0 4 (by decide)
theorem chunk_lt (s : List UInt8) : Sc.numAt zs s 1 < 65536 := at_lt zs s 1 2 (by decide)
theorem cap_lt (s : List UInt8) : Sc.numAt zs s 2 < 4294967296 := at_lt zs s 2 4 (by decide)
theorem mark_lt (s : List UInt8) : Sc.numAt zs s 3 < 256 := at_lt zs s 3 1 (by decide)
theorem decG_lt (s : List UInt8) : decG s < 4294967296 := by
  unfold decG; split
  · exact gen_lt s
  · omega

/- There and back. -/
theorem back (g : Nat) (c p : Int) (b : Bool) (hg : g < 4294967296) (h : okH g c p = true) :
    decE (sector g c p b) = 0 ∧ decG (sector g c p b) = g ∧ (decC (sector g c p b) : Int) = c ∧ (decP (sector g c p b) : Int) = p ∧ decB (sector g c p b) = b := by
  obtain ⟨h1, h2, h3, h4, h5⟩ := (okH_iff g c p).1 h
  obtain ⟨e0, en⟩ := Sc.back lay (nums g c p b) (fit g c p b hg h)
  have n0 : Sc.numAt zs (sector g c p b) 0 = g := en 0 (by decide)
  have n1 : Sc.numAt zs (sector g c p b) 1 = c.toNat := en 1 (by decide)
  have n2 : Sc.numAt zs (sector g c p b) 2 = p.toNat := en 2 (by decide)
  have n3 : Sc.numAt zs (sector g c p b) 3 = bit b := en 3 (by decide)
  have hc : ((c.toNat : Nat) : Int) = c := by omega
  have hp : ((p.toNat : Nat) : Int) = p := by omega
  have ho : okN (Sc.numAt zs (sector g c p b) 0) (Sc.numAt zs (sector g c p b) 1) (Sc.numAt zs (sector g c p b) 2) (Sc.numAt zs (sector g c p b) 3) = true := by
    rw [n0, n1, n2, n3]
    unfold okN
    rw [hc, hp, h, Bool.true_and, decide_eq_true_eq]
    exact bit_le b
  obtain ⟨d0, d1, d2, d3, d4⟩ := dec_ok (sector g c p b) e0 ho
  refine ⟨d0, by rw [d1, n0], by rw [d2, n1, hc], by rw [d3, n2, hp], ?_⟩
  rw [d4, n3]
  cases b <;> rfl
theorem again (s : List UInt8) (h : decE s = 0) : okH (decG s) (decC s) (decP s) = true ∧ sector (decG s) (decC s) (decP s) (decB s) = s := by
  obtain ⟨h1, h2⟩ := dec_zero s h
  obtain ⟨_, d1, d2, d3, d4⟩ := dec_ok s h1 h2
  have h3 := h2
  unfold okN at h3
  rw [Bool.and_eq_true, decide_eq_true_eq] at h3
  rw [d1, d2, d3, d4]
  refine ⟨h3.1, Sc.again lay s h1 _ fun i hi => ?_⟩
  have hi' : i < 4 := hi
  match i, hi' with
  | 0, _ => rfl
  | 1, _ => rfl
  | 2, _ => rfl
  | 3, _ =>
    show bit (Sc.numAt zs s 3 == 1) = Sc.numAt zs s 3
    have h4 := h3.2
    by_cases e : Sc.numAt zs s 3 = 1
    · rw [e]; rfl
    · have e' : Sc.numAt zs s 3 = 0 := by omega
      rw [e']; rfl
/-- With a byte turned it is no head's. -/
theorem turned (s : List UInt8) (h : decE s = 0) (k : Nat) (hk : k < 64) (b : UInt8) (hb : s[k]? ≠ some b) : decE (s.set k b) = 31 := by
  obtain ⟨_, e⟩ := again s h
  have := Sc.turned lay (nums (decG s) (decC s) (decP s) (decB s)) k hk b (by
    show (sector (decG s) (decC s) (decP s) (decB s))[k]? ≠ some b
    rw [e]; exact hb)
  have e' : Sc.sector ts zs (nums (decG s) (decC s) (decP s) (decB s)) = s := e
  rw [e'] at this
  exact (dec_off _ 31 this (by decide)).1
end Hm
end Go.Proofs.Ytpocafiihdnnlaa
