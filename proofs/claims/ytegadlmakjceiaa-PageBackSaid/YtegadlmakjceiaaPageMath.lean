/- Plain mathematics of pages: no program is named. -/
import Derived.Test.YtegadlmakjceiaaCrcOpen
import Derived.Test.YtegadlmakjceiaaOctetJoin
import Derived.Test.YtegadlmakjceiaaOctetZero
namespace Go.Proofs.Ytegadlmakjceiaa
namespace Pm

/-- May a place have this? -/
def okC (x : Int) : Bool := decide (-1 ≤ x) && decide (x ≤ 2147483646)
theorem okC_iff (x : Int) : okC x = true ↔ -1 ≤ x ∧ x ≤ 2147483646 := by simp [okC]
/-- May these be a page's places? -/
def okL (ls : List Int) : Bool := decide (ls.length = 13) && (List.range 13).all fun i => okC (ls.getD i 0)
theorem okL_iff (ls : List Int) : okL ls = true ↔ ls.length = 13 ∧ ∀ i, i < 13 → okC (ls.getD i 0) = true := by
  simp only [okL, Bool.and_eq_true, decide_eq_true_eq, List.all_eq_true, List.mem_range]
theorem okL_len (ls : List Int) (h : ls.length ≠ 13) : okL ls = false := by
  cases hc : okL ls
  · rfl
  · exact absurd ((okL_iff ls).1 hc).1 h
theorem okL_not (ls : List Int) (i : Nat) (hi : i < 13) (h : okC (ls.getD i 0) = false) : okL ls = false := by
  cases hc : okL ls
  · rfl
  · have := ((okL_iff ls).1 hc).2 i hi
    rw [h] at this
    cases this

def zs : List Int := List.replicate 14 4
theorem zs_len : zs.length = 14 := rfl
theorem zs_get (i : Nat) (h : i < 14) : zs.getD i 0 = 4 := by
  have : ∀ i : Fin 14, zs.getD i.val 0 = 4 := by decide
  exact this ⟨i, h⟩
theorem zs_ok : Om.sizesOk zs = true := by decide
theorem zs_off (k : Nat) (h : k ≤ 14) : Om.off zs k = 4 * k := by
  have : ∀ k : Fin 15, Om.off zs k.val = 4 * k.val := by decide
  exact this ⟨k, by omega⟩
/-- A page's numbers. -/
def nums (g : Nat) (ls : List Int) : List Nat := g :: ls.map fun x => (x + 1).toNat
theorem nums_len (g : Nat) (ls : List Int) : (nums g ls).length = ls.length + 1 := by simp [nums]
theorem nums_zero (g : Nat) (ls : List Int) : (nums g ls).getD 0 0 = g := rfl
theorem nums_succ (g : Nat) (ls : List Int) (i : Nat) (h : i < ls.length) : (nums g ls).getD (i + 1) 0 = (ls.getD i 0 + 1).toNat := by
  simp [nums, h]
theorem nums_int (g : Nat) (ls : List Int) (i : Nat) (h : i < ls.length) (ho : okC (ls.getD i 0) = true) : (((nums g ls).getD (i + 1) 0 : Nat) : Int) = ls.getD i 0 + 1 := by
  rw [nums_succ g ls i h]
  have := (okC_iff _).1 ho
  omega
theorem nums_lt (g : Nat) (ls : List Int) (hg : g < 4294967296) (h : okL ls = true) (i : Nat) (hi : i < 14) : (nums g ls).getD i 0 < 4294967296 := by
  obtain ⟨hl, ho⟩ := (okL_iff ls).1 h
  cases i with
  | zero => exact hg
  | succ i =>
    have h1 := nums_int g ls i (by omega) (ho i (by omega))
    have h2 := (okC_iff _).1 (ho i (by omega))
    omega
theorem fit (g : Nat) (ls : List Int) (hg : g < 4294967296) (h : okL ls = true) : Om.fitAll zs (nums g ls) 14 = true := by
  rw [Om.fitAll_iff]
  intro i hi
  rw [zs_get i hi]
  exact nums_lt g ls hg h i hi
/-- The bytes of a page's numbers. -/
def body (g : Nat) (ls : List Int) : List UInt8 := Om.joined zs (nums g ls) 14
theorem body_len (g : Nat) (ls : List Int) : (body g ls).length = 56 := by
  unfold body
  rw [Om.joined_length zs _ 14 (by rw [zs_len]; exact Nat.le_refl _), zs_off 14 (Nat.le_refl _)]
theorem join_is (g : Nat) (ls : List Int) (hg : g < 4294967296) (h : okL ls = true) : joinS zs (nums g ls) = body g ls ∧ joinE zs (nums g ls) = 0 := by
  have hl := ((okL_iff ls).1 h).1
  have hn : (nums g ls).length = 14 := by rw [nums_len, hl]
  have := join_ok zs (nums g ls) (by rw [hn]; rfl) zs_ok (by rw [hn]; exact fit g ls hg h)
  rw [hn] at this
  exact this
/-- A page's sector. -/
def sector (g : Nat) (ls : List Int) : List UInt8 := sealed (body g ls) 60
def encS (g : Nat) (ls : List Int) : List UInt8 := if okL ls = true then sector g ls else []
def encE (ls : List Int) : Int := if okL ls = true then 0 else 1
theorem enc_ok (g : Nat) (ls : List Int) (h : okL ls = true) : encS g ls = sector g ls ∧ encE ls = 0 := by
  unfold encS encE; rw [if_pos h, if_pos h]; exact ⟨rfl, rfl⟩
theorem enc_no (g : Nat) (ls : List Int) (h : okL ls = false) : encS g ls = [] ∧ encE ls = 1 := by
  unfold encS encE; rw [if_neg (by rw [h]; decide), if_neg (by rw [h]; decide)]; exact ⟨rfl, rfl⟩
theorem padded_len (g : Nat) (ls : List Int) : (padTo (body g ls) 60).length = 60 := padTo_length _ _ (by rw [body_len]; omega)
theorem sector_len (g : Nat) (ls : List Int) : (sector g ls).length = 64 := by
  unfold sector sealed
  rw [List.length_append, padded_len, Cm.four_length]

/-- What stands at a place. -/
def pat (b : List UInt8) (i : Nat) : Nat := Om.at_ b zs (i + 1)
def pgen (b : List UInt8) : Nat := Om.at_ b zs 0
theorem pat_eq (b : List UInt8) (i : Nat) (h : i < 13) : pat b i = Om.num ((b.drop (4 + 4 * i)).take 4) := by
  unfold pat Om.at_
  rw [zs_get _ (by omega), zs_off _ (by omega), show 4 * (i + 1) = 4 + 4 * i by omega]
  rfl
theorem pgen_eq (b : List UInt8) : pgen b = Om.num (b.take 4) := by
  unfold pgen Om.at_
  rw [zs_get _ (by omega), zs_off _ (by omega)]
  rfl
theorem at_32 (b : List UInt8) (i : Nat) (h : i < 14) : Om.at_ b zs i < 4294967296 := by
  unfold Om.at_
  rw [zs_get i h]
  have h1 := Om.num_lt ((b.drop (Om.off zs i)).take (4 : Int).toNat)
  have h2 : 256 ^ ((b.drop (Om.off zs i)).take (4 : Int).toNat).length ≤ 256 ^ 4 := Nat.pow_le_pow_right (by omega) (by rw [List.length_take]; exact Nat.min_le_left _ _)
  omega
theorem pat_lt (b : List UInt8) (i : Nat) (h : i < 13) : pat b i < 4294967296 := at_32 b (i + 1) (by omega)
theorem pgen_lt (b : List UInt8) : pgen b < 4294967296 := at_32 b 0 (by omega)
/-- A place's chunk, or none. -/
def val (b : List UInt8) (i : Nat) : Int := (pat b i : Int) - 1
def vals (b : List UInt8) : List Int := (List.range 13).map (val b)
theorem vals_len (b : List UInt8) : (vals b).length = 13 := by simp [vals]
theorem vals_get (b : List UInt8) (i : Nat) (h : i < 13) : (vals b).getD i 0 = val b i := by simp [vals, h]
theorem ok_pat (b : List UInt8) (i : Nat) : okC (val b i) = decide (pat b i ≤ 2147483647) := by
  unfold okC val
  rw [decide_eq_true (by omega : -1 ≤ (pat b i : Int) - 1), Bool.true_and]
  by_cases h : pat b i ≤ 2147483647
  · rw [decide_eq_true h, decide_eq_true (by omega)]
  · rw [decide_eq_false h, decide_eq_false (by omega)]
def okB (b : List UInt8) : Bool := okL (vals b) && allZero (b.drop 56)
def decE (s : List UInt8) : Int := if s.length = 64 then if Cm.good s = true then if okB (s.take 60) = true then 0 else 32 else 31 else 21
def decG (s : List UInt8) : Nat := if decE s = 0 then pgen (s.take 60) else 0
def decL (s : List UInt8) : List Int := if decE s = 0 then vals (s.take 60) else []
theorem dec_cut (s : List UInt8) (h : s.length ≠ 64) : decE s = 21 ∧ decG s = 0 ∧ decL s = [] := by
  have e : decE s = 21 := by unfold decE; rw [if_neg h]
  unfold decG decL; rw [e]; exact ⟨rfl, rfl, rfl⟩
theorem dec_sum (s : List UInt8) (h : s.length = 64) (hg : Cm.good s = false) : decE s = 31 ∧ decG s = 0 ∧ decL s = [] := by
  have e : decE s = 31 := by unfold decE; rw [if_pos h, if_neg (by rw [hg]; decide)]
  unfold decG decL; rw [e]; exact ⟨rfl, rfl, rfl⟩
theorem dec_form (s : List UInt8) (h : s.length = 64) (hg : Cm.good s = true) (ho : okB (s.take 60) = false) : decE s = 32 ∧ decG s = 0 ∧ decL s = [] := by
  have e : decE s = 32 := by unfold decE; rw [if_pos h, if_pos hg, if_neg (by rw [ho]; decide)]
  unfold decG decL; rw [e]; exact ⟨rfl, rfl, rfl⟩
theorem dec_ok (s : List UInt8) (h : s.length = 64) (hg : Cm.good s = true) (ho : okB (s.take 60) = true) : decE s = 0 ∧ decG s = pgen (s.take 60) ∧ decL s = vals (s.take 60) := by
  have e : decE s = 0 := by unfold decE; rw [if_pos h, if_pos hg, if_pos ho]
  unfold decG decL; rw [e]; exact ⟨rfl, rfl, rfl⟩
theorem dec_zero (s : List UInt8) (h : decE s = 0) : s.length = 64 ∧ Cm.good s = true ∧ okB (s.take 60) = true := by
  unfold decE at h
  by_cases h1 : s.length = 64
  · rw [if_pos h1] at h
    by_cases h2 : Cm.good s = true
    · rw [if_pos h2] at h
      by_cases h3 : okB (s.take 60) = true
      · exact ⟨h1, h2, h3⟩
      · rw [if_neg h3] at h; cases h
    · rw [if_neg h2] at h; cases h
  · rw [if_neg h1] at h; cases h
theorem dec_off (s : List UInt8) (h : decE s ≠ 0) : decG s = 0 ∧ decL s = [] := by
  unfold decG decL; rw [if_neg h, if_neg h]; exact ⟨rfl, rfl⟩
theorem decG_lt (s : List UInt8) : decG s < 4294967296 := by
  unfold decG
  split
  · exact pgen_lt _
  · omega

/- There and back. -/
theorem sector_take (g : Nat) (ls : List Int) : (sector g ls).take 60 = body g ls ++ [0, 0, 0, 0] := by
  unfold sector sealed
  have := List.take_left (l₁ := padTo (body g ls) 60) (l₂ := Cm.four (padTo (body g ls) 60))
  rw [padded_len] at this
  rw [this]
  unfold padTo
  rw [body_len]
  rfl
theorem list_ext (a b : List Int) (n : Nat) (ha : a.length = n) (hb : b.length = n) (h : ∀ i, i < n → a.getD i 0 = b.getD i 0) : a = b := by
  apply List.ext_getElem
  · rw [ha, hb]
  · intro i h1 h2
    have := h i (by omega)
    simpa [h1, h2] using this
theorem back (g : Nat) (ls : List Int) (hg : g < 4294967296) (h : okL ls = true) : decE (sector g ls) = 0 ∧ decG (sector g ls) = g ∧ decL (sector g ls) = ls := by
  obtain ⟨hl, ho⟩ := (okL_iff ls).1 h
  have hgood : Cm.good (sector g ls) = true := Cm.good_sealed _
  have hat : ∀ i, i < 14 → Om.at_ ((sector g ls).take 60) zs i = (nums g ls).getD i 0 := fun i hi => by
    rw [sector_take]
    exact Om.at_joined zs (nums g ls) 14 _ (Nat.le_refl _) (fit g ls hg h) i hi
  have hv : vals ((sector g ls).take 60) = ls := list_ext _ _ 13 (vals_len _) hl fun i hi => by
    rw [vals_get _ _ hi]
    unfold val pat
    rw [hat (i + 1) (by omega), nums_int g ls i (by omega) (ho i hi)]
    omega
  have hB : okB ((sector g ls).take 60) = true := by
    unfold okB
    rw [hv, h, sector_take, ← body_len g ls, List.drop_left]
    rfl
  obtain ⟨e1, e2, e3⟩ := dec_ok _ (sector_len g ls) hgood hB
  refine ⟨e1, ?_, ?_⟩
  · rw [e2]; exact hat 0 (by omega)
  · rw [e3, hv]
theorem good_parts (s : List UInt8) (h : s.length = 64) (hg : Cm.good s = true) : s = s.take 60 ++ Cm.four (s.take 60) := by
  unfold Cm.good at hg
  rw [h] at hg
  have e := beq_iff_eq.1 hg
  rw [← e, List.take_append_drop]
theorem zero_four (l : List UInt8) (h : allZero l = true) : l = List.replicate l.length 0 := by
  apply List.eq_replicate_iff.2 ⟨rfl, fun b hb => ?_⟩
  simpa using List.all_eq_true.1 h b hb
theorem again (s : List UInt8) (h : decE s = 0) : okL (decL s) = true ∧ sector (decG s) (decL s) = s := by
  obtain ⟨hl, hg, ho⟩ := dec_zero s h
  obtain ⟨_, e2, e3⟩ := dec_ok s hl hg ho
  unfold okB at ho
  rw [Bool.and_eq_true] at ho
  obtain ⟨ho1, ho2⟩ := ho
  rw [e2, e3]
  refine ⟨ho1, ?_⟩
  have hbl : (s.take 60).length = 60 := by rw [List.length_take]; omega
  have hbody : body (pgen (s.take 60)) (vals (s.take 60)) = (s.take 60).take 56 := by
    unfold body
    have hj := Om.joined_at (s.take 60) zs (nums (pgen (s.take 60)) (vals (s.take 60))) 14 (Nat.le_refl _) (by rw [zs_off 14 (Nat.le_refl _)]; omega) (fun i hi => by
      cases i with
      | zero => rfl
      | succ i =>
        have h1 := ((okL_iff _).1 ho1).2 i (by omega)
        have h2 := nums_int (pgen (s.take 60)) (vals (s.take 60)) i (by rw [vals_len]; omega) h1
        rw [vals_get _ _ (by omega)] at h2
        unfold val pat at h2
        omega)
    rw [zs_off 14 (Nat.le_refl _)] at hj
    exact hj
  have hz := zero_four _ ho2
  have hzl : ((s.take 60).drop 56).length = 4 := by rw [List.length_drop, hbl]
  rw [hzl] at hz
  have hpad : padTo (body (pgen (s.take 60)) (vals (s.take 60))) 60 = s.take 60 := by
    unfold padTo
    rw [body_len, hbody]
    show _ ++ List.replicate 4 0 = _
    rw [← hz, List.take_append_drop]
  unfold sector sealed
  rw [hpad]
  exact (good_parts s hl hg).symm
/-- With a byte turned it is no page's. -/
theorem turned (g : Nat) (ls : List Int) (k : Nat) (hk : k < 64) (b : UInt8) (hb : (sector g ls)[k]? ≠ some b) : decE ((sector g ls).set k b) = 31 := by
  have hlen := sector_len g ls
  have hl : ((sector g ls).set k b).length = 64 := by rw [List.length_set]; exact hlen
  refine (dec_sum _ hl ?_).1
  cases hg : Cm.good ((sector g ls).set k b) with
  | false => rfl
  | true =>
    have e := Cm.good_set (padTo (body g ls) 60) k b (by rw [padded_len]; omega) hg
    have e' : (sector g ls).set k b = sector g ls := e
    exfalso
    apply hb
    rw [← e', List.getElem?_set_self (by omega)]
end Pm
end Go.Proofs.Ytegadlmakjceiaa
