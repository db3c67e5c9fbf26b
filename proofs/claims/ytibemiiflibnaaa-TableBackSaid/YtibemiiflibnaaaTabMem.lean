/- How a table lies in memory. -/
import Derived.Test.YtibemiiflibnaaaTabMath
import Derived.Test.YtibemiiflibnaaaFr
namespace Go.Proofs.Ytibemiiflibnaaa
namespace Tb
open Go.RowKit Dsk
set_option linter.unusedVariables false

/-- Numbers as cells. -/
abbrev nums (l : List Int) : List Value := l.map (Value.int .i64)
/-- A row of numbers of one's own. -/
abbrev Ints (w : World) (v : Value) (l : List Int) : Prop := w.ownsRow 0 3 1 v l.length (nums l)
/-- What a table's map says. -/
def MapOk (D : DataW Unit) (c : List Int) : Prop :=
  Maps.IsMap D ∧ (∀ k : Int, Maps.has D (.int .i64 k) = true ↔ 0 ≤ k ∧ k ∈ c) ∧ ∀ (i : Nat) (k : Int), c[i]? = some k → 0 ≤ k → ∀ z, D.atKey (.int .i64 k) z = .lit (.int .i64 (i : Int))
theorem MapOk.nil : MapOk (.map []) [] := ⟨Maps.isMap_empty, fun k => by simp [Maps.has], fun i k h => by simp at h⟩
/-- The map, of whatever room. -/
def PlaceOf (w : World) (b : Nat) (c : List Int) : Prop := ∃ D, w.ownsMap Try.prog 3 (plainElem (H := Unit) Try.prog 3) b (Maps.size D) D ∧ MapOk D c
theorem map_tight {w : World} {P : Program} {k : TypeId} {R : Value → Option (DataW Unit × List MemPlace)} {b n : Nat} {D : DataW Unit} (h : w.ownsMap P k R b n D) : w.ownsMap P k R b (Maps.size D) D := by
  obtain ⟨es, clock, hb, F, _, rfl⟩ := h
  exact ⟨es, clock, hb, F, by simp [Maps.size, length_sorted], rfl⟩
theorem PlaceOf.same {w w' : World} {b : Nat} {c : List Int} (h : PlaceOf w b c) (hb : w'.heap[b]? = w.heap[b]?) : PlaceOf w' b c := by
  obtain ⟨D, hm, hk⟩ := h
  exact ⟨D, map_same hm hb, hk⟩
theorem PlaceOf.lt {w : World} {b : Nat} {c : List Int} (h : PlaceOf w b c) : b < w.heap.size := by
  obtain ⟨D, hm, _⟩ := h
  exact hm.lt
/-- As many as there are chunks. -/
theorem size_used {w : World} {b n : Nat} {D : DataW Unit} {c : List Int} (hown : w.ownsMap Try.prog 3 (plainElem (H := Unit) Try.prog 3) b n D) (hk : MapOk D c) (hn : (used c).Nodup) : (used c).Perm (intKeys D) ∧ Maps.size D = (used c).length := by
  have hp : (used c).Perm (intKeys D) := by
    obtain ⟨es, hD, hpw, _⟩ := hown.entries (Maps.int_keyed Try.underlying3)
    obtain ⟨es', hD', hko⟩ := hown.keysOf
    obtain rfl : es = es' := by rw [hD] at hD'; simpa using hD'
    subst hD
    exact perm_intKeys hpw (fun p hp => by obtain ⟨v, hv⟩ := hko p hp; obtain ⟨x, _, hx, _⟩ := Maps.keyOf_i64 Try.underlying3 hv; exact ⟨x, hx⟩) hn (fun x => by rw [hk.2.1 x, used_mem]; exact And.comm)
  refine ⟨hp, ?_⟩
  rw [hp.length_eq]
  obtain ⟨es, rfl⟩ := hk.1
  simp [intKeys, Maps.size]

/-- Where a table lies: its block, the map's, the slices of chunks and of gaps. -/
structure Ob where
  p : Nat
  mb : Nat
  cv : Value
  gv : Value
def Ob.fp (o : Ob) (k : Nat) : Prop := k = o.p ∨ k = o.mb ∨ o.cv.ownBlock = some k ∨ o.gv.ownBlock = some k
/-- The program's own table. -/
structure Tk (w : World) (o : Ob) (n : Nat) (c g : List Int) : Prop where
  pr : Pr n c g
  head : w.heap[o.p]? = some (.cells #[.int .i64 (n : Int), .map (some o.mb), o.cv, o.gv] 60 (0, 0))
  chunks : Ints w o.cv c
  gaps : Ints w o.gv g
  placeOf : PlaceOf w o.mb c
  apart : ∀ k, o.cv.ownBlock = some k → o.gv.ownBlock ≠ some k
theorem Tk.lt {w : World} {o : Ob} {n : Nat} {c g : List Int} (h : Tk w o n c g) (k : Nat) (hk : o.fp k) : k < w.heap.size := by
  rcases hk with rfl | rfl | hk | hk
  · exact lt_of_heap h.head
  · exact h.placeOf.lt
  · obtain ⟨cur, hc⟩ := own_block h.chunks k hk; exact lt_of_heap hc
  · obtain ⟨cur, hc⟩ := own_block h.gaps k hk; exact lt_of_heap hc
theorem Tk.same {w w' : World} {o : Ob} {n : Nat} {c g : List Int} (h : Tk w o n c g) (hb : ∀ k, o.fp k → w'.heap[k]? = w.heap[k]?) : Tk w' o n c g :=
  ⟨h.pr, (hb _ (.inl rfl)).trans h.head, own_same h.chunks fun k hk => hb k (.inr (.inr (.inl hk))), own_same h.gaps fun k hk => hb k (.inr (.inr (.inr hk))), h.placeOf.same (hb _ (.inr (.inl rfl))), h.apart⟩
theorem Tk.keep {w w' : World} {o : Ob} {n : Nat} {c g : List Int} {F : Nat → Prop} (h : Tk w o n c g) (hf : Fr F w w') (hd : ∀ k, o.fp k → ¬ F k) : Tk w' o n c g := h.same fun k hk => hf.block k (h.lt k hk) (hd k hk)
theorem Tk.below {w w' : World} {o : Ob} {n : Nat} {c g : List Int} (h : Tk w o n c g) (hb : Below w.heap.size w w') : Tk w' o n c g := h.same fun k hk => hb.block k (h.lt k hk)
/-- The head's block is no other one. -/
theorem Tk.p_ne {w : World} {o : Ob} {n : Nat} {c g : List Int} (h : Tk w o n c g) : o.mb ≠ o.p ∧ o.cv.ownBlock ≠ some o.p ∧ o.gv.ownBlock ≠ some o.p := by
  refine ⟨fun e => ?_, fun e => ?_, fun e => ?_⟩
  · obtain ⟨D, ⟨es, clock, hb, _⟩, _⟩ := h.placeOf
    rw [e, h.head] at hb; cases hb
  · obtain ⟨cur, hc⟩ := own_block h.chunks _ e
    rw [h.head] at hc; injection hc with hc; injection hc with _ hc; cases hc
  · obtain ⟨cur, hc⟩ := own_block h.gaps _ e
    rw [h.head] at hc; injection hc with hc; injection hc with _ hc; cases hc
theorem Tk.m_ne {w : World} {o : Ob} {n : Nat} {c g : List Int} (h : Tk w o n c g) : o.cv.ownBlock ≠ some o.mb ∧ o.gv.ownBlock ≠ some o.mb := by
  obtain ⟨D, ⟨es, clock, hb, _⟩, _⟩ := h.placeOf
  refine ⟨fun e => ?_, fun e => ?_⟩
  · obtain ⟨cur, hc⟩ := own_block h.chunks _ e
    rw [hb] at hc; cases hc
  · obtain ⟨cur, hc⟩ := own_block h.gaps _ e
    rw [hb] at hc; cases hc
/-- What the walks read of a table. -/
theorem Tk.reads {w : World} {o : Ob} {n : Nat} {c g : List Int} (h : Tk w o n c g) :
    w.cell? ⟨o.p, 0, none⟩ = some (.int .i64 (n : Int)) ∧ w.cell? ⟨o.p, 1, none⟩ = some (.map (some o.mb)) ∧ w.cell? ⟨o.p, 2, none⟩ = some o.cv ∧ w.cell? ⟨o.p, 3, none⟩ = some o.gv ∧ ∀ j, w.frozen? ⟨o.p, j, none⟩ = false := by
  refine ⟨?_, ?_, ?_, ?_, fun j => frozen_of_row _ _ _ _ _ h.head⟩ <;> (rw [cell_of_row _ _ _ _ _ _ h.head]; rfl)

/-- One step of a table: its own blocks alone may turn; what is its own behind it was so, or is new. -/
structure Step (o o' : Ob) (w w' : World) : Prop where
  fr : Fr o.fp w w'
  fp : ∀ k, o'.fp k → o.fp k ∨ w.heap.size ≤ k
  p : o'.p = o.p
theorem Step.refl (o : Ob) (w : World) : Step o o w w := ⟨Fr.refl _ _, fun _ h => .inl h, rfl⟩
theorem Step.trans {a b c : Ob} {u v w : World} (h : Step a b u v) (k : Step b c v w) : Step a c u w := by
  refine ⟨h.fr.trans k.fr fun i hi hb => ?_, fun i hi => ?_, k.p.trans h.p⟩
  · rcases h.fp i hb with h1 | h1
    · exact h1
    · omega
  · rcases k.fp i hi with h1 | h1
    · exact h.fp i h1
    · exact .inr (Nat.le_trans h.fr.size h1)
theorem Step.of_below {o : Ob} {w w' : World} (h : Below w.heap.size w w') : Step o o w w' := ⟨Fr.of_below h, fun _ h => .inl h, rfl⟩
theorem Step.below {o o' : Ob} {w w' : World} (h : Step o o' w w') {B : Nat} (hB : B ≤ w.heap.size) (ho : ∀ k, o.fp k → B ≤ k) : Below B w w' ∧ ∀ k, o'.fp k → B ≤ k :=
  ⟨h.fr.below hB ho, fun k hk => (h.fp k hk).elim (ho k) (Nat.le_trans hB)⟩
/-- The program's table has gone there. -/
def Went (o : Ob) (n : Nat) (c g : List Int) (w w' : World) : Prop := ∃ o', Tk w' o' n c g ∧ Step o o' w w'

/-- A table as the document tells it. -/
def Tm (w : World) (o : Ob) (m : List Int) : Prop := ∃ n c g, Tk w o n c g ∧ full n c = m
theorem Tm.lt {w : World} {o : Ob} {m : List Int} (h : Tm w o m) (k : Nat) (hk : o.fp k) : k < w.heap.size := by
  obtain ⟨n, c, g, ht, _⟩ := h
  exact ht.lt k hk
theorem Tm.same {w w' : World} {o : Ob} {m : List Int} (h : Tm w o m) (hb : ∀ k, o.fp k → w'.heap[k]? = w.heap[k]?) : Tm w' o m := by
  obtain ⟨n, c, g, ht, e⟩ := h
  exact ⟨n, c, g, ht.same hb, e⟩
theorem Tm.keep {w w' : World} {o : Ob} {m : List Int} {F : Nat → Prop} (h : Tm w o m) (hf : Fr F w w') (hd : ∀ k, o.fp k → ¬ F k) : Tm w' o m := h.same fun k hk => hf.block k (h.lt k hk) (hd k hk)
theorem Tm.below {w w' : World} {o : Ob} {m : List Int} (h : Tm w o m) (hb : Below w.heap.size w w') : Tm w' o m := h.same fun k hk => hb.block k (h.lt k hk)
theorem Tm.ok {w : World} {o : Ob} {m : List Int} (h : Tm w o m) : Ok m := by
  obtain ⟨n, c, g, ht, rfl⟩ := h
  exact ht.pr.ok
def WentM (o : Ob) (m : List Int) (w w' : World) : Prop := ∃ o', Tm w' o' m ∧ Step o o' w w'
theorem Went.m {o : Ob} {n : Nat} {c g m : List Int} {w w' : World} (h : Went o n c g w w') (e : full n c = m) : WentM o m w w' := by
  obtain ⟨o', h1, h2⟩ := h
  exact ⟨o', ⟨n, c, g, h1, e⟩, h2⟩
theorem Went.trans {o o1 : Ob} {n : Nat} {c g : List Int} {w w1 w2 : World} (h1 : Step o o1 w w1) (h : Went o1 n c g w1 w2) : Went o n c g w w2 := by
  obtain ⟨o2, hd, hs⟩ := h
  exact ⟨o2, hd, h1.trans hs⟩
theorem Went.below {o : Ob} {n : Nat} {c g : List Int} {w w1 w2 : World} (hb : Below w.heap.size w w1) (h : Went o n c g w1 w2) : Went o n c g w w2 := Went.trans (Step.of_below hb) h
/-- A table in new blocks alone. -/
structure Made (m : List Int) (B : Nat) (w : World) (e : Ending) (w' : World) : Prop where
  make : ∃ o, e = .returned (.pointer (some ⟨o.p, 0, none⟩)) ∧ Tm w' o m ∧ ∀ k, o.fp k → B ≤ k
  below : Below B w w'
end Tb
end Go.Proofs.Ytibemiiflibnaaa
