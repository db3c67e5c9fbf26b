/- How a disk lies in memory; worlds in which some blocks alone have turned. -/
import Derived.Test.YtbmabcddciibfaaDiskMath
import Derived.Test.YtbmabcddciibfaaFr
import Derived.Test.YtbmabcddciibfaaProg
import Derived.WalkKit
import Derived.OwnWalk
import Derived.Below
import Derived.Laws.Rows
import Derived.Laws.OwnMore
import Derived.Laws.NewBlocks
import Derived.Laws.CopyOwn
import Derived.Lib.Hide
import Derived.Lib.BufferWrite
import Derived.Maps.OwnSet
import Derived.Deep.Draws
import Derived.Outline
namespace Go.Proofs.Ytbmabcddciibfaa
namespace Dsk
open Go.RowKit
set_option linter.unusedVariables false
/-- The cells of the pending writes. -/
def wcells (P : List (Nat × List UInt8)) : List Value := P.flatMap fun x => [.int .i64 (x.1 : Int), .string (Om.B x.2)]
theorem wcells_length (P : List (Nat × List UInt8)) : (wcells P).length = P.length * 2 := by
  unfold wcells
  induction P with
  | nil => rfl
  | cons x P ih => simp only [List.flatMap_cons, List.length_append, ih, List.length_cons, List.length_nil]; omega
theorem wcells_snoc (P : List (Nat × List UInt8)) (k : Nat) (d : List UInt8) : wcells (P ++ [(k, d)]) = wcells P ++ [.int .i64 (k : Int), .string (Om.B d)] := by simp [wcells]
theorem wcells_get (P : List (Nat × List UInt8)) (i : Nat) (h : i < P.length) : (wcells P)[2 * i]? = some (.int .i64 (P[i].1 : Int)) ∧ (wcells P)[2 * i + 1]? = some (.string (Om.B P[i].2)) := by
  induction P generalizing i with
  | nil => simp at h
  | cons x P ih =>
    have e : wcells (x :: P) = .int .i64 (x.1 : Int) :: .string (Om.B x.2) :: wcells P := rfl
    rw [e]
    cases i with
    | zero => simp
    | succ i =>
      have := ih i (by simpa using h)
      rw [show 2 * (i + 1) = 2 * i + 1 + 1 by omega]
      simpa using this

/-- What a disk's map of newest writes says. -/
def MapOk (D : DataW Unit) (P : List (Nat × List UInt8)) : Prop :=
  Maps.IsMap D ∧ ∀ k : Nat, (Maps.has D (.int .i64 (k : Int)) = false ∧ ∀ x ∈ P, x.1 ≠ k) ∨
    ∃ i d, Maps.has D (.int .i64 (k : Int)) = true ∧ (∀ z, D.atKey (.int .i64 (k : Int)) z = .lit (.int .i64 (i : Nat))) ∧ P[i]? = some (k, d) ∧ ∀ s, Dm.last P k s = d
theorem mapOk_nil : MapOk (.map []) [] := ⟨Maps.isMap_empty, fun k => Or.inl ⟨rfl, fun x hx => by cases hx⟩⟩
theorem mapOk_put {D : DataW Unit} {P : List (Nat × List UInt8)} (h : MapOk D P) (k : Nat) (d : List UInt8) : MapOk (D.put (.int .i64 (k : Int)) (.lit (.int .i64 (P.length : Int)))) (P ++ [(k, d)]) := by
  refine ⟨h.1.put _ _, fun j => ?_⟩
  by_cases e : j = k
  · subst e
    refine Or.inr ⟨P.length, d, Maps.has_put_same h.1 (k := .int .i64 (j : Int)) trivial _, fun z => Maps.atKey_put_same h.1 (k := .int .i64 (j : Int)) trivial _ _, by simp, fun s => by rw [Dm.last_snoc, if_pos rfl]⟩
  · have hne : (Lit.int .i64 (j : Int)) ≠ .int .i64 (k : Int) := fun c => e (by injection c with _ c; omega)
    rcases h.2 j with ⟨h1, h2⟩ | ⟨i, d', h1, h2, h3, h4⟩
    · refine Or.inl ⟨by rw [Maps.has_put_other hne]; exact h1, fun x hx => ?_⟩
      rcases List.mem_append.1 hx with hx | hx
      · exact h2 x hx
      · rw [List.mem_singleton.1 hx]; exact fun c => e c.symm
    · refine Or.inr ⟨i, d', by rw [Maps.has_put_other hne]; exact h1, fun z => by rw [Maps.atKey_put_other hne]; exact h2 z, ?_, fun s => by rw [Dm.last_snoc, if_neg (fun c => e c.symm)]; exact h4 s⟩
      rw [List.getElem?_append_left (Array.getElem?_eq_some_iff.1 (by simpa using h3) |>.1)]
      exact h3

/-- Where a disk lies: its block, that of what stands, the slice of pending writes, the map's block; the fuse as it stands; spare bytes behind what stands. -/
structure Ob where
  p : Nat
  sb : Nat
  pv : Value
  mb : Nat
  f : Int
  sp : List UInt8
def Ob.fp (o : Ob) (k : Nat) : Prop := k = o.p ∨ k = o.sb ∨ o.pv.ownBlock = some k ∨ k = o.mb
def Ob.cells (o : Ob) (n : Nat) (dead : Bool) : Array Value := #[.slice (some ⟨o.sb, 0, none⟩) n (n + o.sp.length), o.pv, .map (some o.mb), .int .i64 o.f, .bool dead]
structure Dk (w : World) (o : Ob) (st : Dm.St) : Prop where
  ok : Dm.Ok st
  head : w.heap[o.p]? = some (.cells (o.cells (64 * st.S.length) st.dead) 60 (0, 0))
  stands : w.heap[o.sb]? = some (.cells (Lib.byteCells (st.S.flatten ++ o.sp)).toArray 5 (0, 0))
  pend : w.ownsRow 0 69 2 o.pv st.P.length (wcells st.P)
  newest : ∃ D n, w.ownsMap Try.prog 3 (plainElem (H := Unit) Try.prog 3) o.mb n D ∧ n ≤ st.P.length ∧ MapOk D st.P
  fuse : max o.f (-1) = st.fuse
  low : -9223372036854775808 ≤ o.f
  high : o.f ≤ 9223372036854775807

theorem Dk.lt {w : World} {o : Ob} {st : Dm.St} (h : Dk w o st) (k : Nat) (hk : o.fp k) : k < w.heap.size := by
  rcases hk with rfl | rfl | hk | rfl
  · exact lt_of_heap h.head
  · exact lt_of_heap h.stands
  · obtain ⟨cur, hc⟩ := own_block h.pend k hk; exact lt_of_heap hc
  · obtain ⟨D, n, hm, _⟩ := h.newest; exact hm.lt
theorem Dk.same {w w' : World} {o : Ob} {st : Dm.St} (h : Dk w o st) (hb : ∀ k, o.fp k → w'.heap[k]? = w.heap[k]?) : Dk w' o st := by
  obtain ⟨D, n, hm, r⟩ := h.newest
  exact ⟨h.ok, (hb _ (.inl rfl)).trans h.head, (hb _ (.inr (.inl rfl))).trans h.stands, own_same h.pend fun k hk => hb k (.inr (.inr (.inl hk))), ⟨D, n, map_same hm (hb _ (.inr (.inr (.inr rfl)))), r⟩, h.fuse, h.low, h.high⟩
theorem Dk.keep {w w' : World} {o : Ob} {st : Dm.St} {F : Nat → Prop} (h : Dk w o st) (hf : Fr F w w') (hd : ∀ k, o.fp k → ¬ F k) : Dk w' o st := h.same fun k hk => hf.block k (h.lt k hk) (hd k hk)
theorem Dk.below {w w' : World} {o : Ob} {st : Dm.St} (h : Dk w o st) (hb : Below w.heap.size w w') : Dk w' o st := h.same fun k hk => hb.block k (h.lt k hk)

/-- One step of a disk: its own blocks alone may turn; what is its own behind it was so, or is new. -/
structure Step (o o' : Ob) (w w' : World) : Prop where
  fr : Fr o.fp w w'
  fp : ∀ k, o'.fp k → o.fp k ∨ w.heap.size ≤ k
  p : o'.p = o.p
theorem Step.refl (o : Ob) (w : World) : Step o o w w := ⟨Fr.refl _ _, fun _ h => .inl h, rfl⟩
theorem Step.trans {a b c : Ob} {u v w : World} (h : Step a b u v) (k : Step b c v w) : Step a c u w := by
  refine ⟨h.fr.trans k.fr fun i hi hb => ?_, fun i hi => ?_, k.p.trans h.p⟩
  · rcases h.fp i hb with h1 | h1
    · exact h1
    · omega
  · rcases k.fp i hi with h1 | h1
    · exact h.fp i h1
    · exact .inr (Nat.le_trans h.fr.size h1)
theorem Step.below {o o' : Ob} {w w' : World} (h : Step o o' w w') {B : Nat} (hB : B ≤ w.heap.size) (ho : ∀ k, o.fp k → B ≤ k) : Below B w w' ∧ ∀ k, o'.fp k → B ≤ k :=
  ⟨h.fr.below hB ho, fun k hk => (h.fp k hk).elim (ho k) (Nat.le_trans hB)⟩
theorem Step.of_below {o : Ob} {w w' : World} (h : Below w.heap.size w w') : Step o o w w' := ⟨Fr.of_below h, fun _ h => .inl h, rfl⟩

/-- What the walks read of a disk. -/
theorem Dk.reads {w : World} {o : Ob} {st : Dm.St} (h : Dk w o st) :
    w.cell? ⟨o.p, 0, none⟩ = some (.slice (some ⟨o.sb, 0, none⟩) (64 * st.S.length) (64 * st.S.length + o.sp.length)) ∧ w.cell? ⟨o.p, 1, none⟩ = some o.pv ∧ w.cell? ⟨o.p, 2, none⟩ = some (.map (some o.mb)) ∧
    w.cell? ⟨o.p, 3, none⟩ = some (.int .i64 o.f) ∧ w.cell? ⟨o.p, 4, none⟩ = some (.bool st.dead) ∧ ∀ j, w.frozen? ⟨o.p, j, none⟩ = false := by
  refine ⟨?_, ?_, ?_, ?_, ?_, fun j => frozen_of_row _ _ _ _ _ h.head⟩ <;> (rw [cell_of_row _ _ _ _ _ _ h.head]; rfl)
end Dsk
end Go.Proofs.Ytbmabcddciibfaa