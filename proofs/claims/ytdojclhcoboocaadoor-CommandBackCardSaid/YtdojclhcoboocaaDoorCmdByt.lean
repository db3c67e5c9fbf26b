/- The contract of command's bytesOf. -/
import Derived.Test.YtdojclhcoboocaaDoorCmdRune
import Derived.Lib.OthersKept
import Derived.Laws.MakeOwn
import Derived.Laws.IdiomStrings
namespace Go.Proofs.YtdojclhcoboocaaDoor
namespace Co
open Go.RowKit Go.Lib Pd
set_option maxRecDepth 100000
set_option linter.unusedVariables false

theorem own_iterAt {w : World} {B e size n : Nat} {v : Value} {xs : List Value} {k : Nat} {s : ByteArray} {pos : Nat} (h : w.ownsRow B e size v n xs) (hk : w.heap[k]? = some (.stringIter s pos)) (pos' : Nat) : (w.iterAt k s pos').ownsRow B e size v n xs := by
  refine ⟨h.1, ?_⟩
  rcases h.2 with h0 | ⟨g, cap, cur, hv, hb, hg, rest⟩
  · exact .inl h0
  · refine .inr ⟨g, cap, cur, hv, hb, ?_, rest⟩
    rw [Lib.iterAt_other _ _ _ _ _ (fun e => by subst e; rw [hk] at hg; cases hg)]
    exact hg
theorem info_u8' : (Tryd.prog.info? 5).map (fun i => (i.zero, i.size, i.bytes)) = some (some (.int .u8 0), 1, 1) := by kernel_rfl
/-- Figures, two by two. -/
def pk : List Nat → List UInt8
  | [] => []
  | [a] => [UInt8.ofNat a]
  | a :: b :: r => UInt8.ofNat (16 * a + b) :: pk r
theorem pk_len : ∀ (l : List Nat), (pk l).length = (l.length + 1) / 2
  | [] => rfl
  | [a] => by simp [pk]
  | a :: b :: r => by
    show (pk r).length + 1 = (r.length + 1 + 1 + 1) / 2
    rw [pk_len r]
    omega
theorem pk_even : ∀ (l : List Nat) (f : Nat), l.length % 2 = 0 → pk (l ++ [f]) = pk l ++ [UInt8.ofNat f]
  | [], f, _ => rfl
  | [a], f, h => by simp at h
  | a :: b :: r, f, h => by
    show UInt8.ofNat (16 * a + b) :: pk (r ++ [f]) = UInt8.ofNat (16 * a + b) :: (pk r ++ _)
    rw [pk_even r f (by simp only [List.length_cons] at h; omega)]
theorem pk_odd : ∀ (l : List Nat) (a f : Nat), l.length % 2 = 0 → pk (l ++ [a, f]) = pk l ++ [UInt8.ofNat (16 * a + f)]
  | [], a, f, _ => rfl
  | [b], a, f, h => by simp at h
  | x :: y :: r, a, f, h => by
    show UInt8.ofNat (16 * x + y) :: pk (r ++ [a, f]) = UInt8.ofNat (16 * x + y) :: (pk r ++ _)
    rw [pk_odd r a f (by simp only [List.length_cons] at h; omega)]
/-- N are the figures of l. -/
def Nb (l : List UInt8) (N : List Nat) : Prop := l.map nib = N.map some
theorem hexP_ok : ∀ (l : List UInt8) (N : List Nat), Nb l N → l.length % 2 = 0 → hexP l = some (pk N)
  | [], [], _, _ => rfl
  | [], _ :: _, h, _ => by simp [Nb] at h
  | [a], N, _, h => by simp at h
  | a :: b :: r, N, h, he => by
    match N, h with
    | x :: y :: M, h =>
      unfold Nb at h
      simp only [List.map_cons, List.cons.injEq] at h
      unfold hexP
      rw [h.1, h.2.1, Option.bind_some, Option.bind_some, hexP_ok r M h.2.2 (by simp only [List.length_cons] at he; omega)]
      rfl
    | [x], h => simp [Nb] at h
    | [], h => simp [Nb] at h
theorem hexP_bad : ∀ (l : List UInt8) (c : UInt8), c ∈ l → nib c = none → hexP l = none
  | [], c, h, _ => by cases h
  | [a], c, _, _ => rfl
  | a :: b :: r, c, h, hn => by
    unfold hexP
    rcases List.mem_cons.1 h with rfl | h
    · rw [hn]; rfl
    · rcases List.mem_cons.1 h with rfl | h
      · rw [hn]
        cases nib a <;> rfl
      · rw [hexP_bad r c h hn]
        cases nib a with
        | none => rfl
        | some x =>
          cases nib b with
          | none => rfl
          | some y => rfl
theorem hexP_odd : ∀ (l : List UInt8), l.length % 2 = 1 → hexP l = none
  | [], h => by simp at h
  | [a], _ => rfl
  | a :: b :: r, h => by
    unfold hexP
    rw [hexP_odd r (by simp only [List.length_cons] at h; omega)]
    cases nib a with
    | none => rfl
    | some x =>
      cases nib b with
      | none => rfl
      | some y => rfl
theorem figs_idx : ∀ n : Fin 256, Lib.indexByte figs.data.toList (UInt8.ofNat n.1) = (match nib (UInt8.ofNat n.1) with | some v => ((v : Nat) : Int) | none => -1) := by decide +kernel
theorem figs_at (c : UInt8) : Lib.indexByte figs.data.toList c = (match nib c with | some v => ((v : Nat) : Int) | none => -1) := by
  have h := figs_idx ⟨c.toNat, c.toNat_lt⟩
  simp only [UInt8.ofNat_toNat] at h
  exact h
theorem nib_lt {c : UInt8} {v : Nat} (h : nib c = some v) : v < 16 := by
  unfold nib at h
  split at h
  · cases h; omega
  · split at h
    · cases h; omega
    · cases h
/-- What the row of bytes holds behind so many figures. -/
def rowD (h : Nat) (N : List Nat) : List UInt8 := pk N ++ List.replicate (h - (N.length + 1) / 2) 0
theorem rowD_len {h : Nat} {N : List Nat} (hn : N.length ≤ 2 * h) : (rowD h N).length = h := by
  unfold rowD
  rw [List.length_append, pk_len, List.length_replicate]
  omega
/-- The byte at hand. -/
def curD (N : List Nat) : Nat := if N.length % 2 = 0 then 0 else N.getLastD 0
theorem rowD_at {h : Nat} {N : List Nat} (hn : N.length < 2 * h) : (rowD h N)[N.length / 2]? = some (UInt8.ofNat (curD N)) := by
  unfold rowD curD
  by_cases he : N.length % 2 = 0
  · rw [if_pos he, List.getElem?_append_right (by rw [pk_len]; omega), pk_len, List.getElem?_replicate, if_pos (by omega)]
    rfl
  · rw [if_neg he]
    obtain ⟨M, a, rfl⟩ : ∃ M a, N = M ++ [a] := by
      rcases List.eq_nil_or_concat N with rfl | ⟨M, a, h⟩
      · simp at he
      · exact ⟨M, a, by rw [h, List.concat_eq_append]⟩
    have hM : M.length % 2 = 0 := by simp only [List.length_append, List.length_singleton] at he; omega
    rw [pk_even M a hM, List.getElem?_append_left (by have := pk_len M; simp only [List.length_append, List.length_singleton]; omega), List.getElem?_append_right (by rw [pk_len]; simp only [List.length_append, List.length_singleton]; omega)]
    have e3 : (M ++ [a]).length / 2 - (pk M).length = 0 := by rw [pk_len]; simp only [List.length_append, List.length_singleton]; omega
    rw [e3]
    simp
theorem rowD_set {h : Nat} {N : List Nat} (hn : N.length < 2 * h) (f : Nat) : (rowD h N).set (N.length / 2) (UInt8.ofNat (16 * curD N + f)) = rowD h (N ++ [f]) := by
  unfold rowD curD
  by_cases he : N.length % 2 = 0
  · rw [if_pos he, pk_even N f he, List.set_append_right _ _ (by rw [pk_len]; omega), pk_len]
    have e1 : N.length / 2 - (N.length + 1) / 2 = 0 := by omega
    obtain ⟨m, hm⟩ : ∃ m, h - (N.length + 1) / 2 = m + 1 := ⟨h - (N.length + 1) / 2 - 1, by omega⟩
    have e2 : h - ((N ++ [f]).length + 1) / 2 = m := by simp only [List.length_append, List.length_singleton]; omega
    rw [e1, hm, e2, List.replicate_succ]
    simp
  · rw [if_neg he]
    obtain ⟨M, a, rfl⟩ : ∃ M a, N = M ++ [a] := by
      rcases List.eq_nil_or_concat N with rfl | ⟨M, a, h⟩
      · simp at he
      · exact ⟨M, a, by rw [h, List.concat_eq_append]⟩
    have hM : M.length % 2 = 0 := by simp only [List.length_append, List.length_singleton] at he; omega
    have hl : (M ++ [a]).length / 2 = (pk M).length := by have := pk_len M; simp only [List.length_append, List.length_singleton]; omega
    have e2 : h - ((M ++ [a] ++ [f]).length + 1) / 2 = h - ((M ++ [a]).length + 1) / 2 := by simp only [List.length_append, List.length_singleton]; omega
    rw [hl, e2, pk_even M a hM, show M ++ [a] ++ [f] = M ++ [a, f] by simp, pk_odd M a f hM, List.append_assoc, List.append_assoc, List.set_append_right _ _ (Nat.le_refl _), Nat.sub_self]
    simp
theorem nb_snoc {l : List UInt8} {N : List Nat} {c : UInt8} {f j : Nat} (h : Nb (l.take j) N) (hc : l[j]? = some c) (hf : nib c = some f) : Nb (l.take (j + 1)) (N ++ [f]) := by
  unfold Nb at h ⊢
  rw [List.take_add_one, hc, List.map_append, List.map_append, h]
  simp [hf]
theorem nb_len {l : List UInt8} {N : List Nat} (h : Nb l N) : N.length = l.length := by
  have := congrArg List.length h
  simpa using this.symm
theorem curD_lt {N : List Nat} {l : List UInt8} (h : Nb l N) : curD N < 16 := by
  unfold curD
  split
  · omega
  · rcases List.eq_nil_or_concat N with rfl | ⟨M, a, rfl⟩
    · simp
    · rw [List.concat_eq_append]
      have hm : some a ∈ l.map nib := by rw [h, List.concat_eq_append]; simp
      obtain ⟨c, _, hc⟩ := List.mem_map.1 hm
      simpa using nib_lt hc
end Co
end Go.Proofs.YtdojclhcoboocaaDoor
