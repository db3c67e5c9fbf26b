/- Plain mathematics of superblocks: no program is named. -/
import Derived.Test.YtncbimgbjkdocaaSecMath
import Derived.Test.YtncbimgbjkdocaaGeomMath
namespace Go.Proofs.Ytncbimgbjkdocaa
namespace Um

/-- May a superblock be? (Sectors, Origin, Chunk.) -/
def okU (a n g : Int) : Bool := Em.rightB n g && (decide (n + 17 ≤ a) && decide (a ≤ 1048576))
theorem okU_small {a n g : Int} (h : okU a n g = true) : 1 ≤ n ∧ n ≤ 1048576 ∧ 1 ≤ g ∧ g ≤ 128 ∧ n + 17 ≤ a ∧ a ≤ 1048576 := by
  unfold okU at h
  rw [Bool.and_eq_true, Bool.and_eq_true, decide_eq_true_eq, decide_eq_true_eq, Em.right_iff] at h
  omega
def ts : List UInt8 := [79, 65, 75, 49]
def zs : List Int := [4, 4, 4]
theorem lay : Sc.Lay ts zs := ⟨rfl, by decide, by decide⟩
theorem zs_off : Om.off zs zs.length = 12 := by decide
def nums (a n g : Int) : List Nat := [a.toNat, n.toNat, g.toNat]
theorem fit (a n g : Int) (h : okU a n g = true) : Om.fitAll zs (nums a n g) zs.length = true := by
  obtain ⟨h1, h2, h3, h4, h5, h6⟩ := okU_small h
  rw [Om.fitAll_iff]
  intro i hi
  have hi' : i < 3 := hi
  match i, hi' with
  | 0, _ => show a.toNat < 256 ^ 4; omega
  | 1, _ => show n.toNat < 256 ^ 4; omega
  | 2, _ => show g.toNat < 256 ^ 4; omega
theorem join_is (a n g : Int) (h : okU a n g = true) : joinS zs (nums a n g) = Om.joined zs (nums a n g) zs.length ∧ joinE zs (nums a n g) = 0 :=
  join_ok zs (nums a n g) rfl (by decide) (fit a n g h)
/-- A superblock's sector. -/
def sector (a n g : Int) : List UInt8 := Sc.sector ts zs (nums a n g)
theorem sector_len (a n g : Int) : (sector a n g).length = 64 := Sc.sector_len lay _
def encS (a n g : Int) : List UInt8 := if okU a n g = true then sector a n g else []
def encE (a n g : Int) : Int := if okU a n g = true then 0 else 1
theorem enc_ok {a n g : Int} (h : okU a n g = true) : encS a n g = sector a n g ∧ encE a n g = 0 := by
  unfold encS encE; rw [if_pos h, if_pos h]; exact ⟨rfl, rfl⟩
theorem enc_no {a n g : Int} (h : okU a n g = false) : encS a n g = [] ∧ encE a n g = 1 := by
  unfold encS encE; rw [if_neg (by rw [h]; decide), if_neg (by rw [h]; decide)]; exact ⟨rfl, rfl⟩

/-- What the bytes behind the letters say: may it be? -/
def okN (a b c : Nat) : Bool := okU a b c
/-- What is told of any bytes. -/
def decE (s : List UInt8) : Int := if Sc.opE ts zs s = 0 then if okN (Sc.numAt zs s 0) (Sc.numAt zs s 1) (Sc.numAt zs s 2) = true then 0 else 32 else Sc.opE ts zs s
def decA (s : List UInt8) : Nat := if decE s = 0 then Sc.numAt zs s 0 else 0
def decN (s : List UInt8) : Nat := if decE s = 0 then Sc.numAt zs s 1 else 0
def decG (s : List UInt8) : Nat := if decE s = 0 then Sc.numAt zs s 2 else 0
theorem dec_none (s : List UInt8) (h : decE s ≠ 0) : decA s = 0 ∧ decN s = 0 ∧ decG s = 0 := by
  unfold decA decN decG; rw [if_neg h, if_neg h, if_neg h]; exact ⟨rfl, rfl, rfl⟩
theorem dec_off (s : List UInt8) (x : Int) (h : Sc.opE ts zs s = x) (hx : x ≠ 0) : decE s = x ∧ decA s = 0 ∧ decN s = 0 ∧ decG s = 0 := by
  have e : decE s = x := by unfold decE; rw [h, if_neg hx]
  exact ⟨e, dec_none s (by rw [e]; exact hx)⟩
theorem dec_form (s : List UInt8) (h : Sc.opE ts zs s = 0) (ho : okN (Sc.numAt zs s 0) (Sc.numAt zs s 1) (Sc.numAt zs s 2) = false) : decE s = 32 ∧ decA s = 0 ∧ decN s = 0 ∧ decG s = 0 := by
  have e : decE s = 32 := by unfold decE; rw [if_pos h, if_neg (by rw [ho]; decide)]
  exact ⟨e, dec_none s (by rw [e]; decide)⟩
theorem dec_ok (s : List UInt8) (h : Sc.opE ts zs s = 0) (ho : okN (Sc.numAt zs s 0) (Sc.numAt zs s 1) (Sc.numAt zs s 2) = true) :
    decE s = 0 ∧ decA s = Sc.numAt zs s 0 ∧ decN s = Sc.numAt zs s 1 ∧ decG s = Sc.numAt zs s 2 := by
  have e : decE s = 0 := by unfold decE; rw [if_pos h, if_pos ho]
  unfold decA decN decG; rw [if_pos e, if_pos e, if_pos e]; exact ⟨e, rfl, rfl, rfl⟩
theorem dec_zero (s : List UInt8) (h : decE s = 0) : Sc.opE ts zs s = 0 ∧ okN (Sc.numAt zs s 0) (Sc.numAt zs s 1) (Sc.numAt zs s 2) = true := by
  unfold decE at h
  by_cases h1 : Sc.opE ts zs s = 0
  · rw [if_pos h1] at h
    by_cases h2 : okN (Sc.numAt zs s 0) (Sc.numAt zs s 1) (Sc.numAt zs s 2) = true
    · exact ⟨h1, h2⟩
    · rw [if_neg h2] at h; cases h
  · rw [if_neg h1] at h; exact absurd h h1
theorem at_lt (zs' : List Int) (s : List UInt8) (i k : Nat) (h : (zs'.getD i 0).toNat ≤ k) : Sc.numAt zs' s i < 256 ^ k := by
  unfold Sc.numAt Om.at_
  have h1 := Om.num_lt ((((s.take 60).drop 4).drop (Om.off zs' i)).take (zs'.getD i 0).toNat)
  have h2 : 256 ^ ((((s.take 60).drop 4).drop (Om.off zs' i)).take (zs'.getD i 0).toNat).length ≤ 256 ^ k := Nat.pow_le_pow_right (by omega) (by rw [List.length_take]; exact Nat.le_trans (Nat.min_le_left _ _) h)
  omega
theorem sectors_lt (s : List UInt8) : Sc.numAt zs s 0 < 4294967296 := at_lt zs s 0 4 (by decide)
theorem origin_lt (s : List UInt8) : Sc.numAt zs s 1 < 4294967296 := at_lt zs s 1 4 (by decide)
theorem chunk_lt (s : List UInt8) : Sc.numAt zs s 2 < 4294967296 := at_lt zs s 2 4 (by decide)

/- There and back. -/
theorem back (a n g : Int) (h : okU a n g = true) :
    decE (sector a n g) = 0 ∧ (decA (sector a n g) : Int) = a ∧ (decN (sector a n g) : Int) = n ∧ (decG (sector a n g) : Int) = g := by
  obtain ⟨h1, h2, h3, h4, h5, h6⟩ := okU_small h
  obtain ⟨e0, en⟩ := Sc.back lay (nums a n g) (fit a n g h)
  have n0 : Sc.numAt zs (sector a n g) 0 = a.toNat := en 0 (by decide)
  have n1 : Sc.numAt zs (sector a n g) 1 = n.toNat := en 1 (by decide)
  have n2 : Sc.numAt zs (sector a n g) 2 = g.toNat := en 2 (by decide)
  have ha : ((a.toNat : Nat) : Int) = a := by omega
  have hn : ((n.toNat : Nat) : Int) = n := by omega
  have hg : ((g.toNat : Nat) : Int) = g := by omega
  have ho : okN (Sc.numAt zs (sector a n g) 0) (Sc.numAt zs (sector a n g) 1) (Sc.numAt zs (sector a n g) 2) = true := by
    rw [n0, n1, n2]
    unfold okN
    rw [ha, hn, hg]
    exact h
  obtain ⟨d0, d1, d2, d3⟩ := dec_ok (sector a n g) e0 ho
  exact ⟨d0, by rw [d1, n0, ha], by rw [d2, n1, hn], by rw [d3, n2, hg]⟩
theorem again (s : List UInt8) (h : decE s = 0) : okU (decA s) (decN s) (decG s) = true ∧ sector (decA s) (decN s) (decG s) = s := by
  obtain ⟨h1, h2⟩ := dec_zero s h
  obtain ⟨_, d1, d2, d3⟩ := dec_ok s h1 h2
  have h3 := h2
  unfold okN at h3
  rw [d1, d2, d3]
  refine ⟨h3, Sc.again lay s h1 _ fun i hi => ?_⟩
  have hi' : i < 3 := hi
  match i, hi' with
  | 0, _ => rfl
  | 1, _ => rfl
  | 2, _ => rfl
/-- With a byte turned it is no superblock's. -/
theorem turned (s : List UInt8) (h : decE s = 0) (k : Nat) (hk : k < 64) (b : UInt8) (hb : s[k]? ≠ some b) : decE (s.set k b) = 31 := by
  obtain ⟨_, e⟩ := again s h
  have := Sc.turned lay (nums (decA s) (decN s) (decG s)) k hk b (by
    show (sector (decA s) (decN s) (decG s))[k]? ≠ some b
    rw [e]; exact hb)
  have e' : Sc.sector ts zs (nums (decA s) (decN s) (decG s)) = s := e
  rw [e'] at this
  exact (dec_off _ 31 this (by decide)).1
end Um
end Go.Proofs.Ytncbimgbjkdocaa
