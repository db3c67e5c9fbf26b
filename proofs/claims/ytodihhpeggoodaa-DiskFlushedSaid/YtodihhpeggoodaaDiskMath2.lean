/- Plain mathematics of a disk: what is flushed stands; what stands behind a restart. -/
import Derived.Test.YtodihhpeggoodaaDiskMath
namespace Go.Proofs.Ytodihhpeggoodaa
namespace Dm

theorem set_getD {S : List (List UInt8)} {j k : Nat} (_hj : j < S.length) (d : List UInt8) : (S.set j d).getD k [] = if j = k then d else S.getD k [] := by
  simp only [List.getD_eq_getElem?_getD, List.getElem?_set]
  split
  · subst_vars
    simp
  · rfl
theorem settle_all {S : List (List UInt8)} {P : List (Nat × List UInt8)} (h : ∀ x ∈ P, x.1 < S.length) (k : Nat) : (settle S P (all P)).getD k [] = last P k (S.getD k []) := by
  induction P generalizing S with
  | nil => rfl
  | cons x P ih =>
    show (settle (S.set x.1 x.2) P (all P)).getD k [] = last P k (if x.1 = k then x.2 else S.getD k [])
    rw [ih (fun y hy => by rw [List.length_set]; exact h y (List.mem_cons_of_mem _ hy)), set_getD (h x List.mem_cons_self)]
theorem flushed {st : St} (h : Ok st) : (settle st.S st.P (all st.P)).flatten = span st 0 st.S.length := by
  unfold span
  congr 1
  apply List.ext_getElem?
  intro i
  by_cases hi : i < st.S.length
  · have h1 := settle_all (S := st.S) (P := st.P) (fun x hx => (h.writes x hx).1) i
    rw [List.getD_eq_getElem?_getD] at h1
    have hl : i < (settle st.S st.P (all st.P)).length := by rw [settle_length]; exact hi
    rw [List.getElem?_eq_getElem hl] at h1 ⊢
    simp only [List.getElem?_map, List.getElem?_range hi, Option.map_some, Nat.zero_add]
    congr 1
  · rw [List.getElem?_eq_none (by rw [settle_length]; omega), List.getElem?_eq_none (by simp; omega)]
theorem settle_one {S : List (List UInt8)} {P : List (Nat × List UInt8)} (keep : List Bool) (h : ∀ x ∈ P, x.1 < S.length) (k : Nat) :
    (settle S P keep).getD k [] = S.getD k [] ∨ ∃ x ∈ P, x = (k, (settle S P keep).getD k []) := by
  induction P generalizing S keep with
  | nil => exact .inl rfl
  | cons x P ih =>
    unfold settle
    split
    · rcases ih keep.tail (S := S.set x.1 x.2) (fun y hy => by rw [List.length_set]; exact h y (List.mem_cons_of_mem _ hy)) with e | ⟨y, hy, he⟩
      · rw [set_getD (h x List.mem_cons_self)] at e
        by_cases hk : x.1 = k
        · rw [if_pos hk] at e
          exact .inr ⟨x, List.mem_cons_self, by rw [e, ← hk]⟩
        · rw [if_neg hk] at e
          exact .inl e
      · exact .inr ⟨y, List.mem_cons_of_mem _ hy, he⟩
    · rcases ih keep.tail (S := S) (fun y hy => h y (List.mem_cons_of_mem _ hy)) with e | ⟨y, hy, he⟩
      · exact .inl e
      · exact .inr ⟨y, List.mem_cons_of_mem _ hy, he⟩

/-- The writes of some sectors from one on. -/
def news (a : Nat) (cs : List (List UInt8)) (f : Nat) : List (Nat × List UInt8) := (List.range f).map fun j => (a + j, cs.getD j [])
theorem news_length (a : Nat) (cs : List (List UInt8)) (f : Nat) : (news a cs f).length = f := by simp [news]
theorem news_succ (a : Nat) (cs : List (List UInt8)) (f : Nat) : news a cs (f + 1) = news a cs f ++ [(a + f, cs.getD f [])] := by simp [news, List.range_succ]
theorem news_cons (a : Nat) (c : List UInt8) (cs : List (List UInt8)) (f : Nat) : news a (c :: cs) (f + 1) = (a, c) :: news (a + 1) cs f := by
  unfold news
  rw [List.range_succ_eq_map]
  simp only [List.map_cons, List.map_map, Nat.add_zero, List.getD_cons_zero]
  congr 1
  apply List.map_congr_left
  intro j _
  simp only [Function.comp, Nat.succ_eq_add_one, List.getD_cons_succ]
  congr 1
  omega
theorem puts_P (st : St) (a : Nat) (cs : List (List UInt8)) : ∃ f, f ≤ cs.length ∧ (puts st a cs).1.P = st.P ++ news a cs f := by
  induction cs generalizing st a with
  | nil => exact ⟨0, Nat.le_refl _, by simp [puts, news]⟩
  | cons c cs ih =>
    unfold puts
    split
    · obtain ⟨f, hf, he⟩ := ih (put (spendS st) a c) (a + 1)
      refine ⟨f + 1, by simp; omega, ?_⟩
      rw [he, news_cons]
      show ((spendS st).P ++ [(a, c)]) ++ _ = _
      rw [spendS_P, List.append_assoc]
      rfl
    · exact ⟨0, Nat.zero_le _, by rw [spendS_P]; simp [news]⟩
theorem write_P (st : St) (a : Int) (l : List UInt8) : ∃ f, (write st a l).1.P = st.P ++ news a.toNat (chunks l) f ∧ (0 < f → 0 ≤ a ∧ f ≤ l.length / 64 ∧ a.toNat + l.length / 64 ≤ st.S.length) := by
  unfold write
  split
  · exact ⟨0, by simp [news], fun h => absurd h (by omega)⟩
  · split
    · split
      · rename_i ht
        obtain ⟨h1, h2, h3⟩ := (there_iff _ _ _).1 ht
        obtain ⟨f, hf, he⟩ := puts_P st a.toNat (chunks l)
        rw [chunks_length] at hf
        exact ⟨f, he, fun _ => ⟨h1, hf, by omega⟩⟩
      · exact ⟨0, by simp [news], fun h => absurd h (by omega)⟩
    · exact ⟨0, by simp [news], fun h => absurd h (by omega)⟩
/-- What was read ahead of a flush that was done stands behind it. -/
theorem flush_stands {st : St} (h : Ok st) (hd : (flush st).1.dead = false) (hr : readE st 0 st.S.length = 0) : (flush st).1.S.flatten = readS st 0 st.S.length := by
  have hdead : st.dead = false := by
    cases hx : st.dead with
    | false => rfl
    | true => unfold readE at hr; rw [hx] at hr; simp at hr
  have ht : thereB st 0 st.S.length = true := by rw [there_iff]; omega
  have hrs : readS st 0 st.S.length = span st 0 st.S.length := by
    unfold readS
    rw [hdead, ht]
    simp
  rw [hrs, ← flushed h]
  cases hb : spendB st with
  | true => unfold flush; rw [hb]; rfl
  | false =>
    exfalso
    unfold flush at hd
    rw [hb] at hd
    have hd : (spendS st).dead = false := hd
    unfold spendB at hb
    rw [hdead] at hb
    simp at hb
    unfold spendS at hd
    rw [if_pos hb] at hd
    cases hd
end Dm
end Go.Proofs.Ytodihhpeggoodaa
