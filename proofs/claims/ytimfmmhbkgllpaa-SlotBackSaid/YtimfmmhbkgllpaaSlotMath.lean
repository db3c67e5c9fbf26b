/- Plain mathematics of slots: no program is named. -/
import Derived.Test.YtimfmmhbkgllpaaSecMath
import Derived.Test.YtimfmmhbkgllpaaSlotRight
namespace Go.Proofs.Ytimfmmhbkgllpaa
namespace Tm

theorem lay : Sc.Lay ts zs := ⟨rfl, by decide, by decide⟩
theorem zs_off : Om.off zs zs.length = 13 := by decide
def nums (t a n : Int) (g : Nat) : List Nat := [t.toNat, a.toNat, n.toNat, g]
theorem fit (t a n : Int) (g : Nat) (hg : g < 4294967296) (h : okT t a n g = true) : Om.fitAll zs (nums t a n g) zs.length = true := by
  obtain ⟨h1, h2, h3, h4, h5, h6⟩ := okT_small h
  rw [Om.fitAll_iff]
  intro i hi
  have hi' : i < 4 := hi
  match i, hi' with
  | 0, _ => show t.toNat < 256 ^ 1; omega
  | 1, _ => show a.toNat < 256 ^ 4; omega
  | 2, _ => show n.toNat < 256 ^ 4; omega
  | 3, _ => show g < 256 ^ 4; omega
theorem join_is (t a n : Int) (g : Nat) (hg : g < 4294967296) (h : okT t a n g = true) : joinS zs (nums t a n g) = Om.joined zs (nums t a n g) zs.length ∧ joinE zs (nums t a n g) = 0 :=
  join_ok zs (nums t a n g) rfl (by decide) (fit t a n g hg h)
/-- A slot's sector. -/
def sector (t a n : Int) (g : Nat) : List UInt8 := Sc.sector ts zs (nums t a n g)
theorem sector_len (t a n : Int) (g : Nat) : (sector t a n g).length = 64 := Sc.sector_len lay _
def encS (t a n : Int) (g : Nat) : List UInt8 := if okT t a n g = true then sector t a n g else []
def encE (t a n : Int) (g : Nat) : Int := if okT t a n g = true then 0 else 1
theorem enc_ok {t a n : Int} {g : Nat} (h : okT t a n g = true) : encS t a n g = sector t a n g ∧ encE t a n g = 0 := by
  unfold encS encE; rw [if_pos h, if_pos h]; exact ⟨rfl, rfl⟩
theorem enc_no {t a n : Int} {g : Nat} (h : okT t a n g = false) : encS t a n g = [] ∧ encE t a n g = 1 := by
  unfold encS encE; rw [if_neg (by rw [h]; decide), if_neg (by rw [h]; decide)]; exact ⟨rfl, rfl⟩

/-- What the bytes behind the letters say: may it be? -/
def okN (a b c d : Nat) : Bool := okT a b c d
/-- What is told of any bytes. -/
def decE (s : List UInt8) : Int := if Sc.opE ts zs s = 0 then if okN (Sc.numAt zs s 0) (Sc.numAt zs s 1) (Sc.numAt zs s 2) (Sc.numAt zs s 3) = true then 0 else 32 else Sc.opE ts zs s
def decT (s : List UInt8) : Nat := if decE s = 0 then Sc.numAt zs s 0 else 0
def decA (s : List UInt8) : Nat := if decE s = 0 then Sc.numAt zs s 1 else 0
def decN (s : List UInt8) : Nat := if decE s = 0 then Sc.numAt zs s 2 else 0
def decG (s : List UInt8) : Nat := if decE s = 0 then Sc.numAt zs s 3 else 0
theorem dec_none (s : List UInt8) (h : decE s ≠ 0) : decT s = 0 ∧ decA s = 0 ∧ decN s = 0 ∧ decG s = 0 := by
  unfold decT decA decN decG; rw [if_neg h, if_neg h, if_neg h, if_neg h]; exact ⟨rfl, rfl, rfl, rfl⟩
theorem dec_off (s : List UInt8) (x : Int) (h : Sc.opE ts zs s = x) (hx : x ≠ 0) : decE s = x ∧ decT s = 0 ∧ decA s = 0 ∧ decN s = 0 ∧ decG s = 0 := by
  have e : decE s = x := by unfold decE; rw [h, if_neg hx]
  exact ⟨e, dec_none s (by rw [e]; exact hx)⟩
theorem dec_form (s : List UInt8) (h : Sc.opE ts zs s = 0) (ho : okN (Sc.numAt zs s 0) (Sc.numAt zs s 1) (Sc.numAt zs s 2) (Sc.numAt zs s 3) = false) : decE s = 32 ∧ decT s = 0 ∧ decA s = 0 ∧ decN s = 0 ∧ decG s = 0 := by
  have e : decE s = 32 := by unfold decE; rw [if_pos h, if_neg (by rw [ho]; decide)]
  exact ⟨e, dec_none s (by rw [e]; decide)⟩
theorem dec_ok (s : List UInt8) (h : Sc.opE ts zs s = 0) (ho : okN (Sc.numAt zs s 0) (Sc.numAt zs s 1) (Sc.numAt zs s 2) (Sc.numAt zs s 3) = true) :
    decE s = 0 ∧ decT s = Sc.numAt zs s 0 ∧ decA s = Sc.numAt zs s 1 ∧ decN s = Sc.numAt zs s 2 ∧ decG s = Sc.numAt zs s 3 := by
  have e : decE s = 0 := by unfold decE; rw [if_pos h, if_pos ho]
  unfold decT decA decN decG; rw [if_pos e, if_pos e, if_pos e, if_pos e]; exact ⟨e, rfl, rfl, rfl, rfl⟩
theorem dec_zero (s : List UInt8) (h : decE s = 0) : Sc.opE ts zs s = 0 ∧ okN (Sc.numAt zs s 0) (Sc.numAt zs s 1) (Sc.numAt zs s 2) (Sc.numAt zs s 3) = true := by
  unfold decE at h
  by_cases h1 : Sc.opE ts zs s = 0
  · rw [if_pos h1] at h
    by_cases h2 : okN (Sc.numAt zs s 0) (Sc.numAt zs s 1) (Sc.numAt zs s 2) (Sc.numAt zs s 3) = true
    · exact ⟨h1, h2⟩
    · rw [if_neg h2] at h; cases h
  · rw [if_neg h1] at h; exact absurd h h1
theorem at_lt (zs' : List Int) (s : List UInt8) (i k : Nat) (h : (zs'.getD i 0).toNat ≤ k) : Sc.numAt zs' s i < 256 ^ k := by
  unfold Sc.numAt Om.at_
  have h1 := Om.num_lt ((((s.take 60).drop 4).drop (Om.off zs' i)).take (zs'.getD i 0).toNat)
  have h2 : 256 ^ ((((s.take 60).drop 4).drop (Om.off zs' i)).take (zs'.getD i 0).toNat).length ≤ 256 ^ k := Nat.pow_le_pow_right (by omega) (by rw [List.length_take]; exact Nat.le_trans (Nat.min_le_left _ _) h)
  omega
theorem state_lt (s : List UInt8) : Sc.numAt zs s 0 < 256 := at_lt zs s 0 1 (by decide)
theorem start_lt (s : List UInt8) : Sc.numAt zs s 1 < 4294967296 := at_lt zs s 1 4 (by decide)
theorem len_lt (s : List UInt8) : Sc.numAt zs s 2 < 4294967296 := at_lt zs s 2 4 (by decide)
theorem gen_lt (s : List UInt8) : Sc.numAt zs s 3 < 4294967296 := at_lt zs s 3 4 (by decide)
theorem decN_lt (s : List UInt8) : decN s < 4294967296 := by
  unfold decN; split
  · exact len_lt s
  · omega
theorem decG_lt (s : List UInt8) : decG s < 4294967296 := by
  unfold decG; split
  · exact gen_lt s
  · omega

/- There and back. -/
theorem back (t a n : Int) (g : Nat) (hg : g < 4294967296) (h : okT t a n g = true) :
    decE (sector t a n g) = 0 ∧ (decT (sector t a n g) : Int) = t ∧ (decA (sector t a n g) : Int) = a ∧ (decN (sector t a n g) : Int) = n ∧ decG (sector t a n g) = g := by
  obtain ⟨h1, h2, h3, h4, h5, h6⟩ := okT_small h
  obtain ⟨e0, en⟩ := Sc.back lay (nums t a n g) (fit t a n g hg h)
  have n0 : Sc.numAt zs (sector t a n g) 0 = t.toNat := en 0 (by decide)
  have n1 : Sc.numAt zs (sector t a n g) 1 = a.toNat := en 1 (by decide)
  have n2 : Sc.numAt zs (sector t a n g) 2 = n.toNat := en 2 (by decide)
  have n3 : Sc.numAt zs (sector t a n g) 3 = g := en 3 (by decide)
  have ht : ((t.toNat : Nat) : Int) = t := by omega
  have ha : ((a.toNat : Nat) : Int) = a := by omega
  have hn : ((n.toNat : Nat) : Int) = n := by omega
  have ho : okN (Sc.numAt zs (sector t a n g) 0) (Sc.numAt zs (sector t a n g) 1) (Sc.numAt zs (sector t a n g) 2) (Sc.numAt zs (sector t a n g) 3) = true := by
    rw [n0, n1, n2, n3]
    unfold okN
    rw [ht, ha, hn]
    exact h
  obtain ⟨d0, d1, d2, d3, d4⟩ := dec_ok (sector t a n g) e0 ho
  exact ⟨d0, by rw [d1, n0, ht], by rw [d2, n1, ha], by rw [d3, n2, hn], by rw [d4, n3]⟩
theorem again (s : List UInt8) (h : decE s = 0) : okT (decT s) (decA s) (decN s) (decG s) = true ∧ sector (decT s) (decA s) (decN s) (decG s) = s := by
  obtain ⟨h1, h2⟩ := dec_zero s h
  obtain ⟨_, d1, d2, d3, d4⟩ := dec_ok s h1 h2
  have h3 := h2
  unfold okN at h3
  rw [d1, d2, d3, d4]
  refine ⟨h3, Sc.again lay s h1 _ fun i hi => ?_⟩
  have hi' : i < 4 := hi
  match i, hi' with
  | 0, _ => rfl
  | 1, _ => rfl
  | 2, _ => rfl
  | 3, _ => rfl
/-- With a byte turned it is no slot's. -/
theorem turned (s : List UInt8) (h : decE s = 0) (k : Nat) (hk : k < 64) (b : UInt8) (hb : s[k]? ≠ some b) : decE (s.set k b) = 31 := by
  obtain ⟨_, e⟩ := again s h
  have := Sc.turned lay (nums (decT s) (decA s) (decN s) (decG s)) k hk b (by
    show (sector (decT s) (decA s) (decN s) (decG s))[k]? ≠ some b
    rw [e]; exact hb)
  have e' : Sc.sector ts zs (nums (decT s) (decA s) (decN s) (decG s)) = s := e
  rw [e'] at this
  exact (dec_off _ 31 this (by decide)).1
end Tm
end Go.Proofs.Ytimfmmhbkgllpaa
