/- Rows of exceptions, somewhere and of one's own; rows of rows. -/
import Derived.Test.YtaedgifboepgdaaRunMath
import Derived.Test.YtaedgifboepgdaaEntSame
import Derived.Deep.DeepAppendWide
import Derived.Test.YtaedgifboepgdaaKeep
namespace Go.Proofs.Ytaedgifboepgdaa
namespace Rn
open Go.RowKit Dsk Go.Maps Tb
set_option linter.unusedVariables false
set_option maxRecDepth 100000

/-- What numbers the exceptions that are handed in have, how many they are. -/
structure In (m : Int) (l : List E) (n c : Nat) : Prop where
  len : n = l.length
  cap : n ≤ c
  small : ∀ x ∈ l, -9223372036854775808 ≤ x.1 ∧ x.1 ≤ 9223372036854775807
  m0 : -9223372036854775808 ≤ m
  m1 : m ≤ 9223372036854775807
  bytes : n * 16 ≤ 140737488351232
theorem In.get {m : Int} {l : List E} {n c : Nat} (h : In m l n c) {i : Nat} (hi : i < l.length) : -9223372036854775808 ≤ l[i].1 ∧ l[i].1 ≤ 9223372036854775807 := h.small _ (List.getElem_mem hi)
theorem ecells_append (l r : List E) : ecells (l ++ r) = ecells l ++ ecells r := by simp [ecells]
theorem ecells_at (l : List E) (j : Nat) (v : Value) (h : (ecells l)[j]? = some v) : ∃ i, ∃ (hi : i < l.length), (j = i * 2 ∧ v = .int .i64 l[i].1) ∨ (j = i * 2 + 1 ∧ v = .int .i64 l[i].2) := by
  have hj := (List.getElem?_eq_some_iff.1 h).1
  rw [ecells_length] at hj
  obtain ⟨h0, h1⟩ := ecells_get l (j / 2) (by omega)
  refine ⟨j / 2, by omega, ?_⟩
  rcases Nat.mod_two_eq_zero_or_one j with e | e
  · have e' : j / 2 * 2 = j := by omega
    rw [e', h] at h0; exact .inl ⟨e'.symm, by simpa using h0⟩
  · have e' : j / 2 * 2 + 1 = j := by omega
    rw [e', h] at h1; exact .inr ⟨e'.symm, by simpa using h1⟩
theorem ecells_one (l : List E) : ∀ v ∈ ecells l, v.oneCell' = true := by
  intro v hv
  obtain ⟨j, hj, e⟩ := List.getElem_of_mem hv
  obtain ⟨i, hi, ⟨_, rfl⟩ | ⟨_, rfl⟩⟩ := ecells_at l j v (by rw [List.getElem?_eq_getElem hj, e]) <;> rfl
/-- The cells of a row, one behind the other. -/
theorem ents_news {w : World} {a : Option Addr} {l : List E} (h : REnts w a l) (hn : l ≠ []) : ∃ b off, a = some ⟨b, off, none⟩ ∧ b < w.heap.size ∧ ∀ j v, (ecells l)[j]? = some v → w.cell? ⟨b, off + j, none⟩ = some v := by
  obtain ⟨b, off, e, hb, hc⟩ := h hn
  refine ⟨b, off, e, hb, fun j v hv => ?_⟩
  obtain ⟨i, hi, ⟨rfl, rfl⟩ | ⟨rfl, rfl⟩⟩ := ecells_at l j v hv
  · exact (hc i _ (List.getElem?_eq_getElem hi)).1
  · exact (hc i _ (List.getElem?_eq_getElem hi)).2
theorem ents_nth {w w' : World} {a : Option Addr} {l : List E} (h : REnts w a l) (hb : Below w.heap.size w w') {i : Nat} (hi : i < l.length) :
    ∃ b off x y, a = some ⟨b, off, none⟩ ∧ w'.cell? ⟨b, off + i * 2, none⟩ = some (.int .i64 x) ∧ w'.cell? ⟨b, off + i * 2 + 1, none⟩ = some (.int .i64 y) ∧ l[i]? = some (x, y) := by
  obtain ⟨b, off, e, h1, h2⟩ := h.get hb hi
  exact ⟨b, off, _, _, e, h1, h2, List.getElem?_eq_getElem hi⟩
theorem ents_any {w : World} {base : Nat} {v : Value} {n : Nat} {l : List E} (h : w.ownsRow base 36 2 v n (ecells l)) : ∃ a c, v = .slice a n c ∧ n = l.length ∧ n ≤ c ∧ REnts w a l := by
  have hl := h.1
  rw [ecells_length] at hl
  have hn : n = l.length := by omega
  subst hn
  obtain ⟨a, c, rfl⟩ := own_slice (Geo.own_zero h)
  refine ⟨a, c, rfl, rfl, ?_, REnts.own (Geo.own_zero h)⟩
  rcases h.2 with ⟨e, h0⟩ | ⟨g, cap, cur, e, _, _, h1, _⟩
  · omega
  · injection e with _ _ e; subst e; exact h1
theorem drew_below {B : Nat} {a w : World} (h : Below B a w) : Below B a w.drew := ⟨h.os, h.tape, h.output, h.size, h.block⟩
theorem below_new (w : World) (o : Obj) : Below w.heap.size w (w.alloc o) := (Below.refl _ w).alloc (Nat.le_refl _) _
theorem own_next {w w2 : World} {base : Nat} {e : TypeId} {size : Nat} {v : Value} {n : Nat} {xs : List Value} (h : w.ownsRow base e size v n xs) (hb : Below w.heap.size w w2) : w2.ownsRow base e size v n xs :=
  own_same h fun j hj => hb.block j (by obtain ⟨cur, hcc⟩ := own_block h j hj; exact lt_of_heap hcc)
/-- A row of another type is not touched. -/
theorem own_grown {w w2 : World} {base : Nat} {e e2 : TypeId} {size : Nat} {v : Value} {n : Nat} {xs : List Value} {row : Option Nat} (h : w.ownsRow base e size v n xs) (hg : w.grownBy w2 row) (hne : e ≠ e2) (hr : ∀ k, row = some k → ∃ cur, w.heap[k]? = some (.cells cur e2 (0, 0))) : w2.ownsRow base e size v n xs :=
  own_same h fun j hj => by
    obtain ⟨cur, hcc⟩ := own_block h j hj
    refine hg.block j (lt_of_heap hcc) fun e => ?_
    obtain ⟨cur2, h2⟩ := hr j e.symm
    rw [hcc] at h2
    injection h2 with h2
    injection h2 with _ h2
    exact hne h2
theorem own_set {w : World} {base : Nat} {e e2 : TypeId} {size : Nat} {v : Value} {n : Nat} {xs : List Value} (h : w.ownsRow base e size v n xs) (hne : e ≠ e2) {p : Addr} {cur : Array Value} (hp : w.heap[p.block]? = some (.cells cur e2 (0, 0))) (u : Value) : (w.setCell p u).ownsRow base e size v n xs :=
  own_same h fun j hj => by
    obtain ⟨cur2, hcc⟩ := own_block h j hj
    refine Below.heap_setCell _ _ _ _ fun e => ?_
    subst e
    rw [hcc] at hp
    injection hp with hp
    injection hp with _ hp
    exact hne hp
theorem own_putObj {w : World} {base : Nat} {e : TypeId} {size : Nat} {v : Value} {n : Nat} {xs : List Value} (h : w.ownsRow base e size v n xs) {l : Nat} {o o' : Obj} (hl : w.heap[l]? = some o) (ho : o.isCells = false) : (w.putObj l o').ownsRow base e size v n xs := ownsRow_putObj h o' hl ho
/-- A row of rows, each in blocks of its own. -/
structure Rows (w : World) (base : Nat) (v : Value) (vs : List Value) (L : List (List E)) : Prop where
  out : w.ownsRow base 22 1 v L.length vs
  ins : ∀ (i : Nat) (u : Value) (r : List E), vs[i]? = some u → L[i]? = some r → w.ownsRow base 36 2 u r.length (ecells r)
theorem Rows.size {w : World} {base : Nat} {v : Value} {vs : List Value} {L : List (List E)} (h : Rows w base v vs L) : vs.length = L.length := by have := h.out.1; omega
theorem Rows.nil (w : World) (base : Nat) : Rows w base (.slice none 0 0) [] [] := ⟨World.ownsRow_nil _ _ _ _, fun i u r h => by simp at h⟩
theorem Rows.next {w w2 : World} {base : Nat} {v : Value} {vs : List Value} {L : List (List E)} (h : Rows w base v vs L) (hb : Below w.heap.size w w2) : Rows w2 base v vs L :=
  ⟨own_next h.out hb, fun i u r h1 h2 => own_next (h.ins i u r h1 h2) hb⟩
/-- A turn of what is no cells. -/
theorem Rows.kept {w w2 : World} {base : Nat} {v : Value} {vs : List Value} {L : List (List E)} {row : Option Nat} (h : Rows w base v vs L) (hg : w.grownBy w2 row) (hr : ∀ k, row = some k → ∃ o : Obj, w.heap[k]? = some o ∧ o.isCells = false) : Rows w2 base v vs L := by
  have key : ∀ {e : TypeId} {size : Nat} {v : Value} {n : Nat} {xs : List Value}, w.ownsRow base e size v n xs → w2.ownsRow base e size v n xs := fun k => own_same k fun j hj => by
    obtain ⟨cur, hcc⟩ := own_block k j hj
    refine hg.block j (lt_of_heap hcc) fun e => ?_
    obtain ⟨o, h1, h2⟩ := hr j e.symm
    rw [hcc] at h1
    cases h1
    cases h2
  exact ⟨key h.out, fun i u r h1 h2 => key (h.ins i u r h1 h2)⟩
theorem Rows.set {w : World} {base : Nat} {v : Value} {vs : List Value} {L : List (List E)} (h : Rows w base v vs L) {p : Addr} {cur : Array Value} {t : TypeId} (hp : w.heap[p.block]? = some (.cells cur t (0, 0))) (h1 : t ≠ 22) (h2 : t ≠ 36) (u : Value) : Rows (w.setCell p u) base v vs L :=
  ⟨own_set h.out h1.symm hp u, fun i x r k1 k2 => own_set (h.ins i x r k1 k2) h2.symm hp u⟩
theorem Rows.zero {w : World} {base : Nat} {v : Value} {vs : List Value} {L : List (List E)} (h : Rows w base v vs L) : Rows w 0 v vs L := ⟨Geo.own_zero h.out, fun i u r h1 h2 => Geo.own_zero (h.ins i u r h1 h2)⟩
/-- One row more stands behind the others. -/
theorem Rows.snoc {w : World} {base : Nat} {v v' : Value} {vs : List Value} {L : List (List E)} {w2 : World} {row : Option Nat} {u : Value} {r : List E} (h : Rows w base v vs L) (hg : w.grownBy w2 row) (hr : ∀ k, row = some k → ∃ cur, w.heap[k]? = some (.cells cur 22 (0, 0)))
    (ho : w2.ownsRow base 22 1 v' (L.length + 1) (vs ++ [u])) (hu : w.ownsRow base 36 2 u r.length (ecells r)) : Rows w2 base v' (vs ++ [u]) (L ++ [r]) := by
  have hs := h.size
  refine ⟨by rw [List.length_append]; exact ho, fun i x y h1 h2 => ?_⟩
  by_cases hi : i < L.length
  · rw [List.getElem?_append_left (by omega)] at h1
    rw [List.getElem?_append_left hi] at h2
    exact own_grown (h.ins i x y h1 h2) hg (by decide) hr
  · have hi2 : i = L.length := by
      have := (List.getElem?_eq_some_iff.1 h2).1
      simp at this; omega
    subst hi2
    rw [List.getElem?_append_right (by omega)] at h1 h2
    simp [hs] at h1 h2
    subst h1 h2
    exact own_grown hu hg (by decide) hr
/-- A row of rows, read: where it lies, and its parts. -/
theorem Rows.get {w : World} {base : Nat} {v : Value} {vs : List Value} {L : List (List E)} (h : Rows w base v vs L) {i : Nat} {r : List E} (hi : L[i]? = some r) :
    ∃ b c a d, v = .slice (some ⟨b, 0, none⟩) L.length c ∧ base ≤ b ∧ b < w.heap.size ∧ w.cell? ⟨b, i, none⟩ = some (.slice a r.length d) ∧ vs[i]? = some (.slice a r.length d) ∧ r.length ≤ d ∧ REnts w a r := by
  have hs := h.size
  have hil := (List.getElem?_eq_some_iff.1 hi).1
  rcases h.out.2 with ⟨_, h0⟩ | ⟨b, c, cur, rfl, hb, hh, _, _, _, ht⟩
  · omega
  · obtain ⟨u, hu⟩ : ∃ u, vs[i]? = some u := ⟨_, List.getElem?_eq_getElem (by omega)⟩
    have hin := h.ins i _ _ hu hi
    obtain ⟨a, d, e, e2, hd, hr⟩ := ents_any hin
    subst e
    refine ⟨b, c, a, d, rfl, hb, lt_of_heap hh, ?_, hu, hd, hr⟩
    rw [cell_of_row _ _ _ _ _ _ hh, ← Array.getElem?_toList]
    rw [← ht, List.getElem?_take, if_pos (by omega)] at hu
    exact hu
theorem Rows.value {w : World} {base : Nat} {v : Value} {vs : List Value} {L : List (List E)} (h : Rows w base v vs L) : ∃ a c, v = .slice a L.length c := own_slice h.out
theorem info_row : (Try.prog.info? 22).map (fun i => (i.zero, i.size, i.bytes)) = some (some (.slice none 0 0), 1, 24) := by kernel_rfl
/-- append onto a row of rows, at the operation. -/
theorem run_append_rows (w : World) (base : Nat) (ty : TypeId) (v : Value) (n : Nat) (vs : List Value) (hown : w.ownsRow base 22 1 v n vs) (b : Nat) (u : Value) (hu : u.oneCell' = true) (hc : w.heap[b]? = some (.cells #[u] 22 (0, 0))) (h63 : n < 8796093022208) (hbase : base ≤ w.heap.size) :
    ∃ v' w', (Builtin.append_ #[24, 24] ty #[v, .slice (some ⟨b, 0, none⟩) 1 1]).run Try.prog w = .ok v' w' ∧ w'.ownsRow base 22 1 v' (n + 1) (vs ++ [u]) ∧ w.grownBy w' v.ownBlock := by
  obtain ⟨i0, hi, hz0, hz1, hz2⟩ := info_parts info_row
  obtain ⟨v', w', h1, h2, h3, _⟩ := run_append_own_wide (P := Try.prog) w base 24 ty 22 i0 _ 1 24 Try.underlying24 hi hz0 hz1 hz2 rfl (by decide) v n vs hown ⟨b, 0, none⟩ 1 1 [u] rfl (World.news_of_block hc) (fun x hx => by rw [List.mem_singleton.1 hx]; exact hu) (by unfold maxLen; omega) (by omega) hbase
  exact ⟨v', w', h1, h2, h3⟩
end Rn
end Go.Proofs.Ytaedgifboepgdaa
