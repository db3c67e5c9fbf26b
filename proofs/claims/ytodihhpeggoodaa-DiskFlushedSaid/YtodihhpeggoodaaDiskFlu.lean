/- What the walk of DiskFlushed carries along. -/
import Derived.Test.YtodihhpeggoodaaDiskPlays
import Derived.Test.YtodihhpeggoodaaDiskMath2
namespace Go.Proofs.Ytodihhpeggoodaa
namespace Dsk
open Go.RowKit
set_option linter.unusedVariables false

theorem step_cases (x : Ac) (st : Dm.St) : (x.step st).P = [] ∨ (x.step st).P = st.P ∨
    ∃ f, 0 < f ∧ x.k % 5 = 1 ∧ (x.step st).P = st.P ++ Dm.news x.a.toNat (Dm.chunks x.d) f ∧ 0 ≤ x.a ∧ f ≤ x.d.length / 64 ∧ x.a.toNat + x.d.length / 64 ≤ st.S.length := by
  unfold Ac.step
  split
  · exact .inr (.inl rfl)
  · rename_i h1
    obtain ⟨f, he, hf⟩ := Dm.write_P st x.a x.d
    by_cases h0 : 0 < f
    · obtain ⟨h2, h3, h4⟩ := hf h0
      exact .inr (.inr ⟨f, h0, h1, he, h2, h3, h4⟩)
    · obtain rfl : f = 0 := by omega
      refine .inr (.inl ?_)
      rw [he]
      simp [Dm.news]
  · unfold Dm.flush
    split
    · exact .inl rfl
    · exact .inr (.inl (Dm.spendS_P st))
  · exact .inr (.inl rfl)
  · exact .inl rfl
theorem step_S (x : Ac) {st : Dm.St} (h : Dm.Ok st) : (x.step st).S.length = st.S.length := by
  unfold Ac.step
  split
  · rfl
  · rw [(Dm.write_ok h x.a x.d).2.1]
  · unfold Dm.flush
    split
    · exact Dm.settle_length _ _ _
    · rw [Dm.spendS_S]
  · rfl
  · exact Dm.settle_length _ _ _

theorem own_apart {w : World} {o : Ob} {st : Dm.St} (h : Dk w o st) {base : Nat} {v : Value} {n : Nat} {xs : List Value} (hw : w.ownsRow base 45 2 v n xs) (j : Nat) (hj : v.ownBlock = some j) : ¬ o.fp j := by
  obtain ⟨cur, hc⟩ := own_block hw j hj
  obtain ⟨D, m, ⟨es, clock, hm, _⟩, _⟩ := h.newest
  rintro (e | e | e | e)
  · rw [e, h.head] at hc; injection hc with hc; injection hc with _ hc; cases hc
  · rw [e, h.stands] at hc; injection hc with hc; injection hc with _ hc; cases hc
  · obtain ⟨cur', hc'⟩ := own_block h.pend j e; rw [hc] at hc'; injection hc' with hc'; injection hc' with _ hc'; cases hc'
  · rw [e, hm] at hc; injection hc with hc; cases hc

/-- The disk, and the writes that were seen, in new memory. -/
structure Flu (w wr : World) (p ns : Nat) (o : Ob) (st : Dm.St) (sv : Value) (Z : List (Nat × List UInt8)) : Prop where
  dk : Dk wr o st
  ofp : ∀ k, o.fp k → w.heap.size ≤ k
  bel : Below w.heap.size w wr
  op : o.p = p
  S : st.S.length = ns
  own : wr.ownsRow w.heap.size 45 2 sv Z.length (wcells Z)
structure Flx (w wr : World) (p ns k : Nat) (o : Ob) (st : Dm.St) (sv : Value) (Z : List (Nat × List UInt8)) : Prop extends Flu w wr p ns o st sv Z where
  sub : ∀ x ∈ st.P, x ∈ Z
  P : st.P.length ≤ 15 * k
  Zl : Z.length ≤ 15 * k
theorem Flu.below {w wr w' : World} {p ns : Nat} {o : Ob} {st : Dm.St} {sv : Value} {Z : List (Nat × List UInt8)} (h : Flu w wr p ns o st sv Z) (hb : Below wr.heap.size wr w') : Flu w w' p ns o st sv Z :=
  ⟨h.dk.below hb, h.ofp, h.bel.trans (hb.mono h.bel.size), h.op, h.S, own_same h.own fun j hj => hb.block j (by obtain ⟨cur, hc⟩ := own_block h.own j hj; exact lt_of_heap hc)⟩
/-- Behind an act, beside a disk of the document's own. -/
theorem Flu.act {w wr w1 w2 : World} {p ns : Nat} {o o' : Ob} {r r' : Ro} {st st' sr : Dm.St} {sv : Value} {Z : List (Nat × List UInt8)} (h : Flu w wr p ns o st sv Z) (hb : Below wr.heap.size wr w1) (hr : ∀ k, r.fp k → wr.heap.size ≤ k) (t : Two o r o' r' st' sr w1 w2) (hS : st'.S.length = ns) : Flu w w2 p ns o' st' sv Z := by
  have h1 := h.below hb
  have hown : ∀ j, sv.ownBlock = some j → j < wr.heap.size := fun j hj => by obtain ⟨cur, hc⟩ := own_block h.own j hj; exact lt_of_heap hc
  refine ⟨t.dk, fun j hj => ?_, ?_, t.op.trans h.op, hS, own_same h1.own fun j hj => t.fr.block j (Nat.lt_of_lt_of_le (hown j hj) hb.size) ?_⟩
  · rcases t.ofp j hj with e | e
    · exact h.ofp j e
    · exact Nat.le_trans h1.bel.size e
  · exact h1.bel.trans (t.fr.below h1.bel.size fun j hj => hj.elim (h.ofp j) (fun e => Nat.le_trans h.bel.size (hr j e)))
  · rintro (e | e)
    · exact own_apart h.dk h.own j hj e
    · have := hr j e; have := hown j hj; omega
/-- Behind an append onto what was seen. -/
theorem Flu.app {w wr w2 : World} {p ns : Nat} {o : Ob} {st : Dm.St} {sa : Option Addr} {sn sc g cap : Nat} {Z : List (Nat × List UInt8)} {a k : Nat} {l : List UInt8} (h : Flu w wr p ns o st (.slice sa sn sc) Z) (hn : sn = Z.length)
    (hown : w2.ownsRow w.heap.size 45 2 (.slice (some ⟨g, 0, none⟩) (sn + 1) cap) (sn + 1) (wcells Z ++ [.int .i64 ((a : Int) + (k : Int)), .string (Om.B l)]))
    (hg : (wr.alloc (.cells #[.int .i64 ((a : Int) + (k : Int)), .string (Om.B l)] 45)).drew.grownBy w2 (Value.slice sa sn sc).ownBlock) :
    Flu w w2 p ns o st (.slice (some ⟨g, 0, none⟩) (sn + 1) cap) (Z ++ [(a + k, l)]) := by
  have hz : (wr.alloc (.cells #[.int .i64 ((a : Int) + (k : Int)), .string (Om.B l)] 45)).drew.heap.size = wr.heap.size + 1 := by simp
  have hblk : ∀ j, j < wr.heap.size → (Value.slice sa sn sc).ownBlock ≠ some j → w2.heap[j]? = wr.heap[j]? := fun j hj hne =>
    (hg.block j (by omega) (fun e => hne e.symm)).trans (Below.heap_alloc _ _ _ hj)
  refine ⟨h.dk.same fun j hj => hblk j (h.dk.lt j hj) (fun e => own_apart h.dk h.own j e hj), h.ofp, ?_, h.op, h.S, ?_⟩
  · refine ⟨hg.os.trans h.bel.os, hg.tape.trans h.bel.tape, hg.output.trans h.bel.output, Nat.le_trans h.bel.size (by have := hg.size; omega), fun j hj => ?_⟩
    rw [hblk j (Nat.lt_of_lt_of_le hj h.bel.size) (fun e => ?_), h.bel.block j hj]
    rcases h.own.2 with ⟨h1, _⟩ | ⟨g', cap', cur, h1, hb, _⟩
    · injection h1 with h1; rw [h1] at e; cases e
    · rw [h1] at e; injection e with e; have e : g' = j := e; omega
  · rw [List.length_append, wcells_snoc, ← hn]
    exact hown

theorem seen_pair {w : World} {base : Nat} {sa : Option Addr} {nz sc : Nat} {Z : List (Nat × List UInt8)} (hown : w.ownsRow base 45 2 (.slice sa nz sc) Z.length (wcells Z)) {k : Nat} (hk : k < Z.length) :
    ∃ g, sa = some ⟨g, 0, none⟩ ∧ w.cell? ⟨g, k * 2, none⟩ = some (.int .i64 (Z[k].1 : Int)) ∧ w.cell? ⟨g, k * 2 + 1, none⟩ = some (.string (Om.B Z[k].2)) := by
  rcases hown.2 with ⟨_, hz⟩ | ⟨g, cap, cc, hv2, _⟩
  · omega
  · rw [hv2] at hown
    injection hv2 with h1 h2 h3
    obtain ⟨c1, c2⟩ := wcells_get Z k hk
    refine ⟨g, h1, ?_, ?_⟩
    · rw [hown.cellAt (k * 2) (by omega), Nat.mul_comm]; exact c1
    · rw [hown.cellAt (k * 2 + 1) (by omega), Nat.mul_comm]; exact c2

/-- Is it among what was seen so far? -/
def fnd (Z : List (Nat × List UInt8)) (k : Nat) (X : List UInt8) (b : Bool) (j : Nat) : Bool := b || (Z.take j).any fun z => decide (z.1 = k) && decide (z.2 = X)
theorem fnd_zero (Z : List (Nat × List UInt8)) (k : Nat) (X : List UInt8) (b : Bool) : fnd Z k X b 0 = b := by simp [fnd]
theorem fnd_succ {Z : List (Nat × List UInt8)} {j : Nat} (h : j < Z.length) (k : Nat) (X : List UInt8) (b : Bool) : fnd Z k X b (j + 1) = (fnd Z k X b j || (decide (Z[j].1 = k) && decide (Z[j].2 = X))) := by
  unfold fnd
  rw [List.take_succ_eq_append_getElem h, List.any_append, Bool.or_assoc]
  simp
theorem fnd_end {Z : List (Nat × List UInt8)} {k : Nat} {X Y : List UInt8} (h : X = Y ∨ (k, X) ∈ Z) : fnd Z k X (decide (X = Y)) Z.length = true := by
  unfold fnd
  rcases h with h | h
  · simp [h]
  · rw [Bool.or_eq_true]
    right
    rw [List.any_eq_true, List.take_length]
    exact ⟨(k, X), h, by simp⟩
end Dsk
end Go.Proofs.Ytodihhpeggoodaa
