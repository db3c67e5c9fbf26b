/- How a disk lies in memory; worlds in which some blocks alone have turned. -/
import Derived.Test.YtodihhpeggoodaaDiskMath
import Derived.Test.YtodihhpeggoodaaProg
import Derived.WalkKit
import Derived.OwnWalk
import Derived.Below
import Derived.Laws.Rows
import Derived.Laws.OwnMore
import Derived.Laws.NewBlocks
import Derived.Laws.CopyOwn
import Derived.Lib.Hide
import Derived.Lib.BufferWrite
import Derived.Maps.OwnSet
import Derived.Deep.Draws
import Derived.Outline
namespace Go.Proofs.Ytodihhpeggoodaa
namespace Dsk
open Go.RowKit
set_option linter.unusedVariables false

/-- Blocks but those of F are as they were. -/
structure Fr (F : Nat → Prop) (w w' : World) : Prop where
  os : w'.os = w.os
  tape : w'.tape = w.tape
  output : w'.output = w.output
  size : w.heap.size ≤ w'.heap.size
  block : ∀ k, k < w.heap.size → ¬ F k → w'.heap[k]? = w.heap[k]?
theorem Fr.refl (F : Nat → Prop) (w : World) : Fr F w w := ⟨rfl, rfl, rfl, Nat.le_refl _, fun _ _ _ => rfl⟩
theorem Fr.trans {F G : Nat → Prop} {a b c : World} (h : Fr F a b) (k : Fr G b c) (hg : ∀ i, i < a.heap.size → G i → F i) : Fr F a c :=
  ⟨k.os.trans h.os, k.tape.trans h.tape, k.output.trans h.output, Nat.le_trans h.size k.size, fun i hi hF => (k.block i (Nat.lt_of_lt_of_le hi h.size) (fun e => hF (hg i hi e))).trans (h.block i hi hF)⟩
theorem Fr.mono {F G : Nat → Prop} {a b : World} (h : Fr F a b) (hg : ∀ i, i < a.heap.size → F i → G i) : Fr G a b := ⟨h.os, h.tape, h.output, h.size, fun i hi hG => h.block i hi (fun e => hG (hg i hi e))⟩
theorem Fr.of_below {F : Nat → Prop} {a b : World} (h : Below a.heap.size a b) : Fr F a b := ⟨h.os, h.tape, h.output, h.size, fun i hi _ => h.block i hi⟩
theorem Fr.below {F : Nat → Prop} {a b : World} (h : Fr F a b) {B : Nat} (hB : B ≤ a.heap.size) (hF : ∀ k, F k → B ≤ k) : Below B a b :=
  ⟨h.os, h.tape, h.output, h.size, fun i hi => h.block i (by omega) (fun e => by have := hF i e; omega)⟩
theorem Fr.of_grown {F : Nat → Prop} {a b : World} {row : Option Nat} (h : a.grownBy b row) (hr : ∀ k, row = some k → F k) : Fr F a b :=
  ⟨h.os, h.tape, h.output, h.size, fun i hi hF => h.block i hi (fun e => hF (hr i e.symm))⟩
theorem Fr.alloc {F : Nat → Prop} {a b : World} (h : Fr F a b) (o : Obj) : Fr F a (b.alloc o) :=
  h.trans (G := fun _ => False) ⟨rfl, rfl, rfl, by simp, fun k hk _ => Below.heap_alloc _ _ _ hk⟩ (fun _ _ e => e.elim)
theorem Fr.setCell {F : Nat → Prop} {a b : World} (h : Fr F a b) (p : Addr) (hp : F p.block) (u : Value) : Fr F a (b.setCell p u) :=
  h.trans (G := fun k => k = p.block) ⟨rfl, rfl, rfl, by simp [World.setCell], fun k hk hne => Below.heap_setCell _ _ _ _ hne⟩ (fun i _ e => e ▸ hp)
theorem Fr.setRow {F : Nat → Prop} {a b : World} (h : Fr F a b) (g : Nat) (hp : F g) (cs : Array Value) : Fr F a (b.setRow g cs) :=
  h.trans (G := fun k => k = g) ⟨rfl, rfl, rfl, by simp, fun k hk hne => setRow_other b g k cs hne⟩ (fun i _ e => e ▸ hp)
theorem Fr.drew {F : Nat → Prop} {a b : World} (h : Fr F a b) : Fr F a b.drew := ⟨h.os, h.tape, h.output, h.size, h.block⟩
theorem Fr.drewN {F : Nat → Prop} {a b : World} (h : Fr F a b) (n : Nat) : Fr F a (b.drewN n) := ⟨h.os, h.tape, h.output, h.size, h.block⟩

theorem own_same {w w' : World} {base : Nat} {e : TypeId} {size : Nat} {v : Value} {n : Nat} {xs : List Value} (h : w.ownsRow base e size v n xs) (hb : ∀ k, v.ownBlock = some k → w'.heap[k]? = w.heap[k]?) : w'.ownsRow base e size v n xs := by
  refine ⟨h.1, ?_⟩
  rcases h.2 with h2 | ⟨g, cap, cur, hv, hg, hh, r⟩
  · exact Or.inl h2
  · refine Or.inr ⟨g, cap, cur, hv, hg, ?_, r⟩
    rw [hb g (by rw [hv]; rfl)]
    exact hh
theorem map_same {H : Type} {w w' : World} {P : Program} {k : TypeId} {R : Value → Option (DataW H × List MemPlace)} {b n : Nat} {D : DataW H} (h : w.ownsMap P k R b n D) (hb : w'.heap[b]? = w.heap[b]?) : w'.ownsMap P k R b n D := by
  obtain ⟨es, clock, h1, r⟩ := h
  exact ⟨es, clock, hb.trans h1, r⟩
theorem own_slice {w : World} {base : Nat} {e : TypeId} {size : Nat} {v : Value} {n : Nat} {xs : List Value} (h : w.ownsRow base e size v n xs) : ∃ a c, v = .slice a n c := by
  rcases h.2 with ⟨h2, rfl⟩ | ⟨g, cap, cur, hv, _⟩
  · exact ⟨_, _, h2⟩
  · exact ⟨_, _, hv⟩
theorem own_block {w : World} {base : Nat} {e : TypeId} {size : Nat} {v : Value} {n : Nat} {xs : List Value} (h : w.ownsRow base e size v n xs) (k : Nat) (hk : v.ownBlock = some k) : ∃ cur, w.heap[k]? = some (.cells cur e (0, 0)) := by
  rcases h.2 with ⟨rfl, _⟩ | ⟨g, cap, cur, rfl, _, hh, _⟩
  · simp [Value.ownBlock] at hk
  · simp [Value.ownBlock] at hk
    subst hk
    exact ⟨cur, hh⟩
theorem lt_of_heap {w : World} {k : Nat} {o : Obj} (h : w.heap[k]? = some o) : k < w.heap.size := (Array.getElem?_eq_some_iff.1 h).1

/-- The cells of the pending writes. -/
def wcells (P : List (Nat × List UInt8)) : List Value := P.flatMap fun x => [.int .i64 (x.1 : Int), .string (Om.B x.2)]
theorem wcells_length (P : List (Nat × List UInt8)) : (wcells P).length = P.length * 2 := by
  unfold wcells
  induction P with
  | nil => rfl
  | cons x P ih => simp only [List.flatMap_cons, List.length_append, ih, List.length_cons, List.length_nil]; omega
theorem wcells_snoc (P : List (Nat × List UInt8)) (k : Nat) (d : List UInt8) : wcells (P ++ [(k, d)]) = wcells P ++ [.int .i64 (k : Int), .string (Om.B d)] := by simp [wcells]
theorem wcells_get (P : List (Nat × List UInt8)) (i : Nat) (h : i < P.length) : (wcells P)[2 * i]? = some (.int .i64 (P[i].1 : Int)) ∧ (wcells P)[2 * i + 1]? = some (.string (Om.B P[i].2)) := by
  induction P generalizing i with
  | nil => simp at h
  | cons x P ih =>
    have e : wcells (x :: P) = .int .i64 (x.1 : Int) :: .string (Om.B x.2) :: wcells P := rfl
    rw [e]
    cases i with
    | zero => simp
    | succ i =>
      have := ih i (by simpa using h)
      rw [show 2 * (i + 1) = 2 * i + 1 + 1 by omega]
      simpa using this

/-- What a disk's map of newest writes says. -/
def MapOk (D : DataW Unit) (P : List (Nat × List UInt8)) : Prop :=
  Maps.IsMap D ∧ ∀ k : Nat, (Maps.has D (.int .i64 (k : Int)) = false ∧ ∀ x ∈ P, x.1 ≠ k) ∨
    ∃ i d, Maps.has D (.int .i64 (k : Int)) = true ∧ (∀ z, D.atKey (.int .i64 (k : Int)) z = .lit (.int .i64 (i : Nat))) ∧ P[i]? = some (k, d) ∧ ∀ s, Dm.last P k s = d
theorem mapOk_nil : MapOk (.map []) [] := ⟨Maps.isMap_empty, fun k => Or.inl ⟨rfl, fun x hx => by cases hx⟩⟩
theorem mapOk_put {D : DataW Unit} {P : List (Nat × List UInt8)} (h : MapOk D P) (k : Nat) (d : List UInt8) : MapOk (D.put (.int .i64 (k : Int)) (.lit (.int .i64 (P.length : Int)))) (P ++ [(k, d)]) := by
  refine ⟨h.1.put _ _, fun j => ?_⟩
  by_cases e : j = k
  · subst e
    refine Or.inr ⟨P.length, d, Maps.has_put_same h.1 (k := .int .i64 (j : Int)) trivial _, fun z => Maps.atKey_put_same h.1 (k := .int .i64 (j : Int)) trivial _ _, by simp, fun s => by rw [Dm.last_snoc, if_pos rfl]⟩
  · have hne : (Lit.int .i64 (j : Int)) ≠ .int .i64 (k : Int) := fun c => e (by injection c with _ c; omega)
    rcases h.2 j with ⟨h1, h2⟩ | ⟨i, d', h1, h2, h3, h4⟩
    · refine Or.inl ⟨by rw [Maps.has_put_other hne]; exact h1, fun x hx => ?_⟩
      rcases List.mem_append.1 hx with hx | hx
      · exact h2 x hx
      · rw [List.mem_singleton.1 hx]; exact fun c => e c.symm
    · refine Or.inr ⟨i, d', by rw [Maps.has_put_other hne]; exact h1, fun z => by rw [Maps.atKey_put_other hne]; exact h2 z, ?_, fun s => by rw [Dm.last_snoc, if_neg (fun c => e c.symm)]; exact h4 s⟩
      rw [List.getElem?_append_left (Array.getElem?_eq_some_iff.1 (by simpa using h3) |>.1)]
      exact h3

/-- Where a disk lies: its block, that of what stands, the slice of pending writes, the map's block; the fuse as it stands; spare bytes behind what stands. -/
structure Ob where
  p : Nat
  sb : Nat
  pv : Value
  mb : Nat
  f : Int
  sp : List UInt8
def Ob.fp (o : Ob) (k : Nat) : Prop := k = o.p ∨ k = o.sb ∨ o.pv.ownBlock = some k ∨ k = o.mb
def Ob.cells (o : Ob) (n : Nat) (dead : Bool) : Array Value := #[.slice (some ⟨o.sb, 0, none⟩) n (n + o.sp.length), o.pv, .map (some o.mb), .int .i64 o.f, .bool dead]
structure Dk (w : World) (o : Ob) (st : Dm.St) : Prop where
  ok : Dm.Ok st
  head : w.heap[o.p]? = some (.cells (o.cells (64 * st.S.length) st.dead) 59 (0, 0))
  stands : w.heap[o.sb]? = some (.cells (Lib.byteCells (st.S.flatten ++ o.sp)).toArray 5 (0, 0))
  pend : w.ownsRow 0 64 2 o.pv st.P.length (wcells st.P)
  newest : ∃ D n, w.ownsMap Try.prog 3 (plainElem (H := Unit) Try.prog 3) o.mb n D ∧ n ≤ st.P.length ∧ MapOk D st.P
  fuse : max o.f (-1) = st.fuse
  low : -9223372036854775808 ≤ o.f
  high : o.f ≤ 9223372036854775807

theorem Dk.lt {w : World} {o : Ob} {st : Dm.St} (h : Dk w o st) (k : Nat) (hk : o.fp k) : k < w.heap.size := by
  rcases hk with rfl | rfl | hk | rfl
  · exact lt_of_heap h.head
  · exact lt_of_heap h.stands
  · obtain ⟨cur, hc⟩ := own_block h.pend k hk; exact lt_of_heap hc
  · obtain ⟨D, n, hm, _⟩ := h.newest; exact hm.lt
theorem Dk.same {w w' : World} {o : Ob} {st : Dm.St} (h : Dk w o st) (hb : ∀ k, o.fp k → w'.heap[k]? = w.heap[k]?) : Dk w' o st := by
  obtain ⟨D, n, hm, r⟩ := h.newest
  exact ⟨h.ok, (hb _ (.inl rfl)).trans h.head, (hb _ (.inr (.inl rfl))).trans h.stands, own_same h.pend fun k hk => hb k (.inr (.inr (.inl hk))), ⟨D, n, map_same hm (hb _ (.inr (.inr (.inr rfl)))), r⟩, h.fuse, h.low, h.high⟩
theorem Dk.keep {w w' : World} {o : Ob} {st : Dm.St} {F : Nat → Prop} (h : Dk w o st) (hf : Fr F w w') (hd : ∀ k, o.fp k → ¬ F k) : Dk w' o st := h.same fun k hk => hf.block k (h.lt k hk) (hd k hk)
theorem Dk.below {w w' : World} {o : Ob} {st : Dm.St} (h : Dk w o st) (hb : Below w.heap.size w w') : Dk w' o st := h.same fun k hk => hb.block k (h.lt k hk)

/-- One step of a disk: its own blocks alone may turn; what is its own behind it was so, or is new. -/
structure Step (o o' : Ob) (w w' : World) : Prop where
  fr : Fr o.fp w w'
  fp : ∀ k, o'.fp k → o.fp k ∨ w.heap.size ≤ k
  p : o'.p = o.p
theorem Step.refl (o : Ob) (w : World) : Step o o w w := ⟨Fr.refl _ _, fun _ h => .inl h, rfl⟩
theorem Step.trans {a b c : Ob} {u v w : World} (h : Step a b u v) (k : Step b c v w) : Step a c u w := by
  refine ⟨h.fr.trans k.fr fun i hi hb => ?_, fun i hi => ?_, k.p.trans h.p⟩
  · rcases h.fp i hb with h1 | h1
    · exact h1
    · omega
  · rcases k.fp i hi with h1 | h1
    · exact h.fp i h1
    · exact .inr (Nat.le_trans h.fr.size h1)
theorem Step.below {o o' : Ob} {w w' : World} (h : Step o o' w w') {B : Nat} (hB : B ≤ w.heap.size) (ho : ∀ k, o.fp k → B ≤ k) : Below B w w' ∧ ∀ k, o'.fp k → B ≤ k :=
  ⟨h.fr.below hB ho, fun k hk => (h.fp k hk).elim (ho k) (Nat.le_trans hB)⟩
theorem Step.of_below {o : Ob} {w w' : World} (h : Below w.heap.size w w') : Step o o w w' := ⟨Fr.of_below h, fun _ h => .inl h, rfl⟩

/-- What the walks read of a disk. -/
theorem Dk.reads {w : World} {o : Ob} {st : Dm.St} (h : Dk w o st) :
    w.cell? ⟨o.p, 0, none⟩ = some (.slice (some ⟨o.sb, 0, none⟩) (64 * st.S.length) (64 * st.S.length + o.sp.length)) ∧ w.cell? ⟨o.p, 1, none⟩ = some o.pv ∧ w.cell? ⟨o.p, 2, none⟩ = some (.map (some o.mb)) ∧
    w.cell? ⟨o.p, 3, none⟩ = some (.int .i64 o.f) ∧ w.cell? ⟨o.p, 4, none⟩ = some (.bool st.dead) ∧ ∀ j, w.frozen? ⟨o.p, j, none⟩ = false := by
  refine ⟨?_, ?_, ?_, ?_, ?_, fun j => frozen_of_row _ _ _ _ _ h.head⟩ <;> (rw [cell_of_row _ _ _ _ _ _ h.head]; rfl)
end Dsk
end Go.Proofs.Ytodihhpeggoodaa
