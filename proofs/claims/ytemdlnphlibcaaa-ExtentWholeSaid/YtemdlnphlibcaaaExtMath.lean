/- Plain words on extents: what may be used in a region, its gaps, sector by sector. -/
import Derived.WalkKit
namespace Go.Proofs.Ytemdlnphlibcaaa
namespace Xm
set_option linter.unusedVariables false

/-- Is it a region? -/
def regB (s l : Int) : Bool := decide (0 ≤ s) && decide (s ≤ 1048576) && decide (0 ≤ l) && decide (l ≤ 1048576)
theorem reg_iff {s l : Int} : regB s l = true ↔ 0 ≤ s ∧ s ≤ 1048576 ∧ 0 ≤ l ∧ l ≤ 1048576 := by
  unfold regB; simp [Bool.and_eq_true, and_assoc]
/-- Does an extent lie in a region? -/
def inB (s l : Int) (x : Int × Int) : Bool := decide (1 ≤ x.2) && decide (s ≤ x.1) && decide (x.2 ≤ s + l - x.1)
theorem in_iff {s l : Int} {x : Int × Int} : inB s l x = true ↔ 1 ≤ x.2 ∧ s ≤ x.1 ∧ x.1 + x.2 ≤ s + l := by
  unfold inB
  simp only [Bool.and_eq_true, decide_eq_true_eq]
  constructor
  · rintro ⟨⟨a, b⟩, c⟩; exact ⟨a, b, by omega⟩
  · rintro ⟨a, b, c⟩; exact ⟨⟨a, b⟩, by omega⟩
/-- Have two extents no sector in common? -/
def Apart (a b : Int × Int) : Prop := a.1 + a.2 ≤ b.1 ∨ b.1 + b.2 ≤ a.1
instance (a b : Int × Int) : Decidable (Apart a b) := by unfold Apart; exact inferInstance
theorem Apart.symm {a b : Int × Int} (h : Apart a b) : Apart b a := Or.symm h
/-- May extents be used in a region? -/
def Ok (s l : Int) (u : List (Int × Int)) : Prop := regB s l = true ∧ (∀ x ∈ u, inB s l x = true) ∧ u.Pairwise Apart
instance (s l : Int) (u : List (Int × Int)) : Decidable (Ok s l u) := by unfold Ok; exact inferInstance
def okB (s l : Int) (u : List (Int × Int)) : Bool := decide (Ok s l u)
theorem ok_iff {s l : Int} {u : List (Int × Int)} : okB s l u = true ↔ Ok s l u := by simp [okB]
theorem Ok.perm {s l : Int} {u v : List (Int × Int)} (h : Ok s l u) (p : List.Perm u v) : Ok s l v :=
  ⟨h.1, fun x hx => h.2.1 x (p.mem_iff.2 hx), (p.pairwise_iff (fun {_ _} h => Apart.symm h)).1 h.2.2⟩
theorem okB_perm {s l : Int} {u v : List (Int × Int)} (p : List.Perm u v) : okB s l u = okB s l v := by
  unfold okB
  by_cases h : Ok s l u
  · rw [decide_eq_true h, decide_eq_true (h.perm p)]
  · rw [decide_eq_false h, decide_eq_false (fun c => h (c.perm p.symm))]

/-- One behind the other. -/
def Rise (u : List (Int × Int)) : Prop := u.Pairwise fun a b => a.1 + a.2 ≤ b.1
/-- Neighbours, one behind the other: all are. -/
theorem rise_next : ∀ (u : List (Int × Int)), (∀ x ∈ u, 1 ≤ x.2) → (∀ i (h : i + 1 < u.length), (u[i]'(by omega)).1 + (u[i]'(by omega)).2 ≤ u[i + 1].1) → Rise u
  | [], _, _ => List.Pairwise.nil
  | [x], _, _ => List.pairwise_singleton _ _
  | x :: y :: r, h1, h2 => by
    have ih := rise_next (y :: r) (fun z hz => h1 z (List.mem_cons_of_mem _ hz)) (fun i h => by have := h2 (i + 1) (by simp at h ⊢; omega); simpa using this)
    have h0 : x.1 + x.2 ≤ y.1 := by have := h2 0 (by simp); simpa using this
    have hy : 1 ≤ y.2 := h1 y (by simp)
    refine List.pairwise_cons.2 ⟨fun z hz => ?_, ih⟩
    rcases List.mem_cons.1 hz with rfl | hz
    · exact h0
    · have := (List.pairwise_cons.1 ih).1 z hz; omega
theorem rise_apart {u : List (Int × Int)} (h : Rise u) : u.Pairwise Apart := List.Pairwise.imp (fun h => Or.inl h) h
/-- Sorted by where they begin, and apart: neighbours rise. -/
theorem apart_next {u : List (Int × Int)} (h1 : ∀ x ∈ u, 1 ≤ x.2) (hs : ∀ i j (hj : j < u.length) (hij : i < j), (u[i]'(by omega)).1 ≤ u[j].1) (hp : u.Pairwise Apart) (i : Nat) (h : i + 1 < u.length) : (u[i]'(by omega)).1 + (u[i]'(by omega)).2 ≤ u[i + 1].1 := by
  have a := List.pairwise_iff_getElem.1 hp i (i + 1) (by omega) h (by omega)
  have b := hs i (i + 1) h (by omega)
  have c := h1 _ (List.getElem_mem h)
  rcases a with a | a
  · exact a
  · omega

/-- Has one of extents a sector? -/
def has (u : List (Int × Int)) (t : Int) : Bool := u.any fun x => decide (x.1 ≤ t) && decide (t < x.1 + x.2)
theorem has_iff {u : List (Int × Int)} {t : Int} : has u t = true ↔ ∃ x ∈ u, x.1 ≤ t ∧ t < x.1 + x.2 := by
  unfold has; simp [List.any_eq_true]
theorem has_false {u : List (Int × Int)} {t : Int} : has u t = false ↔ ∀ x ∈ u, ¬ (x.1 ≤ t ∧ t < x.1 + x.2) := by
  rw [← Bool.not_eq_true, has_iff]; simp
theorem has_perm {u v : List (Int × Int)} (p : List.Perm u v) : has u = has v := by
  funext t
  rw [Bool.eq_iff_iff, has_iff, has_iff]
  constructor
  · rintro ⟨x, hx, h⟩; exact ⟨x, p.mem_iff.1 hx, h⟩
  · rintro ⟨x, hx, h⟩; exact ⟨x, p.mem_iff.2 hx, h⟩
theorem has_append (u v : List (Int × Int)) (t : Int) : has (u ++ v) t = (has u t || has v t) := by simp [has]
theorem has_cons (x : Int × Int) (v : List (Int × Int)) (t : Int) : has (x :: v) t = (decide (x.1 ≤ t) && decide (t < x.1 + x.2) || has v t) := by simp [has]

/-- One sector more. -/
def put (a : List (Int × Int)) (b : Bool) (t : Int) : List (Int × Int) :=
  match a, b with
  | x :: r, true => (x.1, x.2 + 1) :: r
  | r, _ => (t, 1) :: r
theorem put_true (x : Int × Int) (r : List (Int × Int)) (t : Int) : put (x :: r) true t = (x.1, x.2 + 1) :: r := rfl
theorem put_false (a : List (Int × Int)) (t : Int) : put a false t = (t, 1) :: a := by cases a <;> rfl
/-- The gaps of the first n sectors, the last one first; does the last sector stand in one? -/
def acc (h : Int → Bool) (s : Int) : Nat → List (Int × Int) × Bool
  | 0 => ([], false)
  | n + 1 => if h (s + (n : Int)) then ((acc h s n).1, false) else (put (acc h s n).1 (acc h s n).2 (s + (n : Int)), true)
theorem acc_yes {h : Int → Bool} {s : Int} {n : Nat} (e : h (s + (n : Int)) = true) : acc h s (n + 1) = ((acc h s n).1, false) := by rw [acc, if_pos e]
theorem acc_no {h : Int → Bool} {s : Int} {n : Nat} (e : h (s + (n : Int)) = false) : acc h s (n + 1) = (put (acc h s n).1 (acc h s n).2 (s + (n : Int)), true) := by rw [acc, if_neg (by rw [e]; decide)]
/-- What the first n sectors hold. -/
structure Acc (h : Int → Bool) (s : Int) (n : Nat) (a : List (Int × Int)) (b : Bool) : Prop where
  len : a.length ≤ n
  head : b = true → ∃ x t, a = x :: t ∧ x.1 + x.2 = s + n
  each : ∀ g ∈ a, 1 ≤ g.2 ∧ s ≤ g.1 ∧ g.1 + g.2 ≤ s + n ∧ ∀ t, g.1 ≤ t → t < g.1 + g.2 → h t = false
  all : ∀ t, s ≤ t → t < s + n → h t = false → ∃ g ∈ a, g.1 ≤ t ∧ t < g.1 + g.2
  rise : a.Pairwise fun y x => x.1 + x.2 ≤ y.1
theorem acc_holds (h : Int → Bool) (s : Int) (n : Nat) : Acc h s n (acc h s n).1 (acc h s n).2 := by
  induction n with
  | zero => exact ⟨Nat.le_refl _, fun e => (by cases e), fun g hg => (by cases hg), fun t h1 h2 => (by omega), List.Pairwise.nil⟩
  | succ n ih =>
    cases hh : h (s + (n : Int)) with
    | true =>
      rw [acc_yes hh]
      generalize (acc h s n).1 = a at ih
      generalize (acc h s n).2 = b at ih
      refine ⟨by have := ih.len; show a.length ≤ _; omega, fun e => (by cases e), fun g hg => ?_, fun t h1 h2 h3 => ?_, ih.rise⟩
      · obtain ⟨c1, c2, c3, c4⟩ := ih.each g hg
        exact ⟨c1, c2, by push_cast; omega, c4⟩
      · by_cases e : t = s + n
        · rw [e, hh] at h3; cases h3
        · exact ih.all t h1 (by push_cast at h2; omega) h3
    | false =>
      rw [acc_no hh]
      generalize (acc h s n).1 = a at ih
      generalize (acc h s n).2 = b at ih
      cases b with
      | true =>
        obtain ⟨x, t, rfl, hx⟩ := ih.head rfl
        obtain ⟨c1, c2, c3, c4⟩ := ih.each x (by simp)
        rw [put_true]
        refine ⟨by have := ih.len; simp at this ⊢; omega, fun _ => ⟨_, _, rfl, by show x.1 + (x.2 + 1) = s + ((n + 1 : Nat) : Int); push_cast; omega⟩, fun g hg => ?_, fun q h1 h2 h3 => ?_, ?_⟩
        · rcases List.mem_cons.1 hg with rfl | hg
          · refine ⟨by show 1 ≤ x.2 + 1; omega, c2, by show x.1 + (x.2 + 1) ≤ s + ((n + 1 : Nat) : Int); push_cast; omega, fun q h1 h2 => ?_⟩
            have h1 : x.1 ≤ q := h1
            have h2 : q < x.1 + (x.2 + 1) := h2
            by_cases e : q = s + n
            · rw [e]; exact hh
            · exact c4 q h1 (by omega)
          · obtain ⟨d1, d2, d3, d4⟩ := ih.each g (by simp [hg])
            exact ⟨d1, d2, by push_cast; omega, d4⟩
        · by_cases e : q = s + n
          · exact ⟨(x.1, x.2 + 1), by simp, by show x.1 ≤ q; omega, by show q < x.1 + (x.2 + 1); omega⟩
          · obtain ⟨g, hg, hq⟩ := ih.all q h1 (by push_cast at h2; omega) h3
            rcases List.mem_cons.1 hg with rfl | hg
            · exact ⟨(g.1, g.2 + 1), by simp, hq.1, by show q < g.1 + (g.2 + 1); omega⟩
            · exact ⟨g, by simp [hg], hq⟩
        · obtain ⟨p1, p2⟩ := List.pairwise_cons.1 ih.rise
          exact List.pairwise_cons.2 ⟨fun z hz => p1 z hz, p2⟩
      | false =>
        rw [put_false]
        refine ⟨by have := ih.len; simp; omega, fun _ => ⟨_, _, rfl, by show s + (n : Int) + 1 = s + ((n + 1 : Nat) : Int); push_cast; omega⟩, fun g hg => ?_, fun q h1 h2 h3 => ?_, ?_⟩
        · rcases List.mem_cons.1 hg with rfl | hg
          · refine ⟨Int.le_refl _, by show s ≤ s + (n : Int); omega, by show s + (n : Int) + 1 ≤ s + ((n + 1 : Nat) : Int); push_cast; omega, fun q h1 h2 => ?_⟩
            have h1 : s + (n : Int) ≤ q := h1
            have h2 : q < s + (n : Int) + 1 := h2
            have e : q = s + n := by omega
            rw [e]; exact hh
          · obtain ⟨d1, d2, d3, d4⟩ := ih.each g hg
            exact ⟨d1, d2, by push_cast; omega, d4⟩
        · by_cases e : q = s + n
          · exact ⟨(s + (n : Int), 1), by simp, by show s + (n : Int) ≤ q; omega, by show q < s + (n : Int) + 1; omega⟩
          · obtain ⟨g, hg, hq⟩ := ih.all q h1 (by push_cast at h2; omega) h3
            exact ⟨g, by simp [hg], hq⟩
        · exact List.pairwise_cons.2 ⟨fun z hz => (ih.each z hz).2.2.1, ih.rise⟩

/-- All gaps of a region, rising. -/
def gaps (s l : Int) (u : List (Int × Int)) : List (Int × Int) := (acc (has u) s l.toNat).1.reverse
theorem gaps_perm {s l : Int} {u v : List (Int × Int)} (p : List.Perm u v) : gaps s l u = gaps s l v := by unfold gaps; rw [has_perm p]

/-- The gaps beside extents that rise, as one goes along them. -/
def along (next e : Int) : List (Int × Int) → List (Int × Int)
  | [] => if next < e then [(next, e - next)] else []
  | x :: r => (if next < x.1 then [(next, x.1 - next)] else []) ++ along (x.1 + x.2) e r
theorem acc_free (h : Int → Bool) (s : Int) (n : Nat) (hb : (acc h s n).2 = false) (m : Nat) (hm : ∀ k : Nat, k < m → h (s + n + k) = false) : acc h s (n + m) = if m = 0 then acc h s n else ((s + (n : Int), (m : Int)) :: (acc h s n).1, true) := by
  induction m with
  | zero => rfl
  | succ m ih =>
    have ih := ih fun k hk => hm k (by omega)
    rw [if_neg (by omega), ← Nat.add_assoc]
    have hl : h (s + ((n + m : Nat) : Int)) = false := by have := hm m (by omega); rw [Int.add_assoc] at this; push_cast; exact this
    rw [acc_no hl, ih]
    cases m with
    | zero => rw [if_pos rfl, hb, put_false]; rfl
    | succ m => rw [if_neg (by omega), put_true]; push_cast; rfl
theorem acc_used (h : Int → Bool) (s : Int) (n : Nat) (m : Nat) (hm : ∀ k : Nat, k < m + 1 → h (s + n + k) = true) : acc h s (n + (m + 1)) = ((acc h s n).1, false) := by
  induction m with
  | zero =>
    have h0 : h (s + (n : Int)) = true := by have := hm 0 (by omega); simpa using this
    exact acc_yes h0
  | succ m ih =>
    have ih := ih fun k hk => hm k (by omega)
    have h0 : h (s + ((n + (m + 1) : Nat) : Int)) = true := by have := hm (m + 1) (by omega); rw [Int.add_assoc] at this; push_cast at this ⊢; exact this
    show acc h s (n + (m + 1) + 1) = _
    rw [acc_yes h0, ih]
theorem along_acc (h : Int → Bool) (s : Int) (N : Nat) : ∀ (r : List (Int × Int)) (n : Nat), n ≤ N → (acc h s n).2 = false → Rise r → (∀ x ∈ r, 1 ≤ x.2 ∧ s + n ≤ x.1 ∧ x.1 + x.2 ≤ s + N) → (∀ t, s + n ≤ t → h t = has r t) →
    (acc h s N).1.reverse = (acc h s n).1.reverse ++ along (s + n) (s + N) r
  | [], n, hn, hb, _, _, hh => by
    obtain ⟨m, rfl⟩ : ∃ m, N = n + m := ⟨N - n, by omega⟩
    rw [acc_free h s n hb m fun k hk => by rw [hh _ (by omega)]; rfl]
    unfold along
    cases m with
    | zero => rw [if_pos rfl, if_neg (by push_cast; omega)]; simp
    | succ m =>
      rw [if_neg (by omega), if_pos (by push_cast; omega)]
      simp
      push_cast; omega
  | x :: r, n, hn, hb, hr, hx, hh => by
    obtain ⟨x1, x2, x3⟩ := hx x (by simp)
    obtain ⟨m, hm⟩ : ∃ m : Nat, x.1 = s + n + m := ⟨(x.1 - (s + n)).toNat, by omega⟩
    obtain ⟨q, hq⟩ : ∃ q : Nat, x.2 = (q + 1 : Nat) := ⟨(x.2 - 1).toNat, by omega⟩
    obtain ⟨r1, r2⟩ := List.pairwise_cons.1 hr
    have f := acc_free h s n hb m fun k hk => by
      rw [hh _ (by omega), has_false]
      intro y hy
      rcases List.mem_cons.1 hy with rfl | hy
      · omega
      · have := r1 y hy; omega
    have g := acc_used h s (n + m) q fun k hk => by
      rw [hh _ (by push_cast; omega), has_iff]
      exact ⟨x, by simp, by push_cast; omega, by push_cast; omega⟩
    have ih := along_acc h s N r (n + m + (q + 1)) (by push_cast at *; omega) (by rw [g]) r2 (fun y hy => by
      obtain ⟨y1, y2, y3⟩ := hx y (by simp [hy])
      have := r1 y hy
      exact ⟨y1, by push_cast; omega, y3⟩) (fun t ht => by
      rw [hh t (by push_cast at ht; omega), has_cons]
      have : decide (t < x.1 + x.2) = false := by simp; push_cast at ht; omega
      rw [this]; simp)
    rw [ih, g]
    have e : s + ((n + m + (q + 1) : Nat) : Int) = x.1 + x.2 := by push_cast; omega
    rw [e, along, f]
    cases m with
    | zero => rw [if_pos rfl, if_neg (by omega)]; simp
    | succ m =>
      rw [if_neg (by omega), if_pos (by push_cast at hm; omega)]
      simp
      omega
/-- Along extents that rise stand all gaps. -/
theorem along_gaps {s l : Int} {u v : List (Int × Int)} (h : Ok s l u) (p : List.Perm u v) (hr : Rise v) : along s (s + l) v = gaps s l u := by
  obtain ⟨g1, g2, g3, g4⟩ := reg_iff.1 h.1
  have hv := h.perm p
  have := along_acc (has v) s l.toNat v 0 (Nat.zero_le _) rfl hr (fun x hx => by
    obtain ⟨a, b, c⟩ := in_iff.1 (hv.2.1 x hx)
    exact ⟨a, by simpa using b, by rw [Int.toNat_of_nonneg g3]; exact c⟩) (fun _ _ => rfl)
  rw [gaps_perm p]
  unfold gaps
  rw [this, Int.toNat_of_nonneg g3]
  simp [acc]

/-- How many of the first n sectors stand free. -/
def cnt (h : Int → Bool) (s : Int) : Nat → Nat
  | 0 => 0
  | n + 1 => cnt h s n + if h (s + n) then 0 else 1
def sumL : List (Int × Int) → Int
  | [] => 0
  | x :: r => x.2 + sumL r
theorem sumL_append (a b : List (Int × Int)) : sumL (a ++ b) = sumL a + sumL b := by
  induction a with
  | nil => simp [sumL]
  | cons x a ih => simp only [List.cons_append, sumL, ih]; omega
theorem sumL_reverse (a : List (Int × Int)) : sumL a.reverse = sumL a := by
  induction a with
  | nil => rfl
  | cons x a ih => rw [List.reverse_cons, sumL_append, ih]; simp only [sumL]; omega
theorem acc_cnt (h : Int → Bool) (s : Int) (n : Nat) : sumL (acc h s n).1 = cnt h s n := by
  induction n with
  | zero => rfl
  | succ n ih =>
    have hd := (acc_holds h s n).head
    cases hh : h (s + (n : Int)) with
    | true => rw [acc_yes hh, cnt, hh]; simpa using ih
    | false =>
      rw [acc_no hh, cnt, hh]
      generalize (acc h s n).1 = a at ih hd
      generalize (acc h s n).2 = b at hd
      cases b with
      | true =>
        obtain ⟨x, t, rfl, _⟩ := hd rfl
        rw [put_true]; simp only [sumL] at ih ⊢; simp; omega
      | false => rw [put_false]; simp only [sumL]; simp; omega
/-- How many sectors stand free. -/
def free (s l : Int) (u : List (Int × Int)) : Int := sumL (gaps s l u)
theorem free_cnt (s l : Int) (u : List (Int × Int)) : free s l u = cnt (has u) s l.toNat := by unfold free gaps; rw [sumL_reverse, acc_cnt]
theorem cnt_le (h : Int → Bool) (s : Int) (n : Nat) : cnt h s n ≤ n := by
  induction n with
  | zero => exact Nat.le_refl _
  | succ n ih => unfold cnt; split <;> omega
theorem cnt_none (h : Int → Bool) (s : Int) (n : Nat) (hh : ∀ t, s ≤ t → t < s + (n : Int) → h t = true) : cnt h s n = 0 := by
  induction n with
  | zero => rfl
  | succ n ih =>
    unfold cnt
    rw [ih fun t h1 h2 => hh t h1 (by push_cast; omega), hh (s + n) (by omega) (by push_cast; omega)]; rfl
/-- Beside an extent of free sectors: fewer by just as many. -/
theorem cnt_less (h h' : Int → Bool) (s a : Int) (k : Nat) (ha : s ≤ a) (hf : ∀ t, a ≤ t → t < a + k → h t = false) (hh : ∀ t, h' t = (h t || (decide (a ≤ t) && decide (t < a + k)))) (n : Nat) :
    (cnt h s n : Int) = cnt h' s n + (if s + (n : Int) ≤ a then 0 else if a + k ≤ s + (n : Int) then (k : Int) else s + (n : Int) - a) := by
  induction n with
  | zero => unfold cnt; rw [if_pos (by simpa using ha)]; rfl
  | succ n ih =>
    unfold cnt
    rw [hh]
    by_cases h1 : a ≤ s + n
    · by_cases h2 : s + (n : Int) < a + k
      · rw [hf _ h1 h2, decide_eq_true h1, decide_eq_true h2]
        rw [if_neg (show ¬ s + ((n + 1 : Nat) : Int) ≤ a by push_cast; omega)]
        simp only [Bool.false_or, Bool.and_self, if_true, Bool.false_eq_true, if_false]
        split at ih <;> split <;> (try split at ih) <;> push_cast at * <;> omega
      · rw [decide_eq_false h2]
        rw [if_neg (show ¬ s + ((n + 1 : Nat) : Int) ≤ a by push_cast; omega), if_pos (show a + (k : Int) ≤ s + ((n + 1 : Nat) : Int) by push_cast; omega)]
        simp only [Bool.and_false, Bool.or_false]
        split at ih <;> (try split at ih) <;> (split <;> push_cast at * <;> omega)
    · rw [decide_eq_false h1]
      rw [if_pos (show s + ((n + 1 : Nat) : Int) ≤ a by push_cast; omega)]
      rw [if_pos (by omega)] at ih
      simp only [Bool.false_and, Bool.or_false]
      split <;> push_cast at * <;> omega
end Xm
end Go.Proofs.Ytemdlnphlibcaaa
