/- What fits may be used, too; gaps and what is used are the region. -/
import Derived.Test.YtemdlnphlibcaaaExtOrd
namespace Go.Proofs.Ytemdlnphlibcaaa
namespace Xm
set_option linter.unusedVariables false

/-- A gap: in the region, and free. -/
theorem gap_holds {s l : Int} {u : List (Int × Int)} (h : Ok s l u) {g : Int × Int} (hg : g ∈ gaps s l u) : 1 ≤ g.2 ∧ s ≤ g.1 ∧ g.1 + g.2 ≤ s + l ∧ ∀ t, g.1 ≤ t → t < g.1 + g.2 → has u t = false := by
  obtain ⟨_, _, h3, _⟩ := reg_iff.1 h.1
  have := (acc_holds (has u) s l.toNat).each g (by simpa [gaps] using hg)
  rw [Int.toNat_of_nonneg h3] at this
  exact this
theorem free_apart {u : List (Int × Int)} {x y : Int × Int} (hx : x ∈ u) (h1 : 1 ≤ x.2) (h2 : 1 ≤ y.2) (hf : ∀ t, y.1 ≤ t → t < y.1 + y.2 → has u t = false) : Apart x y := by
  by_cases h : Apart x y
  · exact h
  · exfalso
    have n1 : ¬ x.1 + x.2 ≤ y.1 := fun c => h (.inl c)
    have n2 : ¬ y.1 + y.2 ≤ x.1 := fun c => h (.inr c)
    by_cases c : x.1 ≤ y.1
    · have := hf y.1 (Int.le_refl _) (by omega)
      rw [has_false] at this
      exact this x hx ⟨c, by omega⟩
    · have := hf x.1 (by omega) (by omega)
      rw [has_false] at this
      exact this x hx ⟨Int.le_refl _, by omega⟩
theorem room_mem {m : Int} {gs : List (Int × Int)} {g : Int × Int} (h : room m gs = some g) : g ∈ gs ∧ m ≤ g.2 := by
  unfold room at h
  exact ⟨List.mem_of_find?_eq_some h, by simpa using List.find?_some h⟩
/-- Is there room? -/
def roomB (m : Int) (gs : List (Int × Int)) : Bool := decide (1 ≤ m) && gs.any fun x => decide (m ≤ x.2)
theorem fit_is {s l m : Int} {u : List (Int × Int)} (h : okB s l u = true) : (fitE s l m u == 0) = roomB m (gaps s l u) := by
  unfold roomB
  by_cases h1 : 1 ≤ m
  · cases hr : room m (gaps s l u) with
    | none =>
      rw [(fit_none ⟨h, h1⟩ hr).2.2]
      unfold room at hr
      rw [List.find?_eq_none] at hr
      have : ((gaps s l u).any fun x => decide (m ≤ x.2)) = false := by rw [List.any_eq_false]; exact hr
      rw [this]; simp
    | some g =>
      rw [(fit_some ⟨h, h1⟩ hr).2.2]
      obtain ⟨g1, g2⟩ := room_mem hr
      have : ((gaps s l u).any fun x => decide (m ≤ x.2)) = true := List.any_eq_true.2 ⟨g, g1, by simpa using g2⟩
      rw [this]; simp [h1]
  · rw [(fit_no (l := l) (u := u) (s := s) (m := m) (fun c => h1 c.2)).2.2]
    simp [h1]
theorem fit_with {s l m : Int} {u : List (Int × Int)} (h : okB s l u = true) (hf : fitE s l m u = 0) :
    okB s l (u ++ [(fitS s l m u, fitL s l m u)]) = true ∧ freeR s l (u ++ [(fitS s l m u, fitL s l m u)]) = freeR s l u - m ∧ fitS s l m u ≤ 9223372036854775807 := by
  have hok := ok_iff.1 h
  obtain ⟨r1, r2, r3, r4⟩ := reg_iff.1 hok.1
  by_cases h1 : 1 ≤ m
  · cases hr : room m (gaps s l u) with
    | none => rw [(fit_none ⟨h, h1⟩ hr).2.2] at hf; cases hf
    | some g =>
      obtain ⟨q1, q2, _⟩ := fit_some ⟨h, h1⟩ hr
      rw [q1, q2]
      obtain ⟨hg, hm⟩ := room_mem hr
      obtain ⟨g1, g2, g3, g4⟩ := gap_holds hok hg
      have hfree : ∀ t, g.1 ≤ t → t < g.1 + m → has u t = false := fun t h1 h2 => g4 t h1 (by omega)
      have hok2 : okB s l (u ++ [(g.1, m)]) = true := by
        refine ok_iff.2 ⟨hok.1, fun x hx => ?_, List.pairwise_append.2 ⟨hok.2.2, List.pairwise_singleton _ _, fun x hx y hy => ?_⟩⟩
        · rcases List.mem_append.1 hx with c | c
          · exact hok.2.1 x c
          · rw [List.mem_singleton.1 c]; exact in_iff.2 ⟨h1, g2, by show g.1 + m ≤ s + l; omega⟩
        · rw [List.mem_singleton.1 hy]
          exact free_apart hx (in_iff.1 (hok.2.1 x hx)).1 h1 hfree
      refine ⟨hok2, ?_, by omega⟩
      unfold freeR
      rw [if_pos hok2, if_pos h, free_cnt, free_cnt]
      have := cnt_less (has u) (has (u ++ [(g.1, m)])) s g.1 m.toNat g2 (fun t h1 h2 => hfree t h1 (by omega)) (fun t => by
        rw [has_append, show (m.toNat : Int) = m by omega]; simp [has]) l.toNat
      rw [if_neg (by omega), if_pos (by omega)] at this
      omega
  · rw [(fit_no (l := l) (u := u) (s := s) (m := m) (fun c => h1 c.2)).2.2] at hf; cases hf
theorem all_used {s l : Int} {u : List (Int × Int)} (h : okB s l u = true) : okB s l (u ++ gaps s l u) = true ∧ freeR s l (u ++ gaps s l u) = 0 := by
  have hok := ok_iff.1 h
  obtain ⟨r1, r2, r3, r4⟩ := reg_iff.1 hok.1
  have hA := acc_holds (has u) s l.toNat
  have hok2 : okB s l (u ++ gaps s l u) = true := by
    refine ok_iff.2 ⟨hok.1, fun x hx => ?_, List.pairwise_append.2 ⟨hok.2.2, ?_, fun x hx y hy => ?_⟩⟩
    · rcases List.mem_append.1 hx with c | c
      · exact hok.2.1 x c
      · obtain ⟨g1, g2, g3, _⟩ := gap_holds hok c
        exact in_iff.2 ⟨g1, g2, g3⟩
    · unfold gaps
      exact (List.pairwise_reverse.2 hA.rise).imp fun h => Or.inl h
    · obtain ⟨g1, g2, g3, g4⟩ := gap_holds hok hy
      exact free_apart hx (in_iff.1 (hok.2.1 x hx)).1 g1 g4
  refine ⟨hok2, ?_⟩
  unfold freeR
  rw [if_pos hok2, free_cnt, cnt_none]
  · rfl
  · intro t h1 h2
    rw [has_append]
    cases hh : has u t with
    | true => rfl
    | false =>
      obtain ⟨g, hg, hgt⟩ := hA.all t h1 h2 hh
      have : has (gaps s l u) t = true := has_iff.2 ⟨g, by unfold gaps; simpa using hg, hgt⟩
      rw [this]; rfl
theorem in_all {s l : Int} {u : List (Int × Int)} {n : Nat} (hi : In u n) (hn : n ≤ 20) (h : okB s l u = true) : In (u ++ gaps s l u) (n + (gaps s l u).length) := by
  have hok := ok_iff.1 h
  obtain ⟨r1, r2, r3, r4⟩ := reg_iff.1 hok.1
  have := gaps_len s l u
  refine ⟨by rw [List.length_append, ← hi.size], fun x hx => ?_, by unfold maxLen; omega, by omega⟩
  rcases List.mem_append.1 hx with c | c
  · exact hi.small x c
  · obtain ⟨g1, g2, g3, _⟩ := gap_holds hok c
    omega
theorem roomB_take (m : Int) (gs : List (Int × Int)) (k : Nat) (hk : k < gs.length) : roomB m (gs.take (k + 1)) = (roomB m (gs.take k) || (decide (1 ≤ m) && decide (m ≤ gs[k].2))) := by
  unfold roomB
  rw [List.take_succ_eq_append_getElem hk, List.any_append]
  cases decide (1 ≤ m) <;> simp
theorem roomB_nil (m : Int) : roomB m [] = false := by unfold roomB; simp
end Xm
end Go.Proofs.Ytemdlnphlibcaaa
