/- How the document's disk (oakumref04.Disk) lies in memory. -/
import Derived.Test.YtbmabcddciibfaaDiskFlush
namespace Go.Proofs.Ytbmabcddciibfaa
namespace Dsk
open Go.RowKit
set_option linter.unusedVariables false
/-- Where it lies: its block, the slice of what stands, the slice of pending writes. -/
structure Ro where
  p : Nat
  sv : Value
  pv : Value
def Ro.fp (r : Ro) (k : Nat) : Prop := k = r.p ∨ r.sv.ownBlock = some k ∨ r.pv.ownBlock = some k
def Ro.cells (r : Ro) (f : Int) (dead : Bool) : Array Value := #[r.sv, r.pv, .int .i64 f, .bool dead]
def scells (S : List (List UInt8)) : List Value := S.map fun x => .string (Om.B x)
theorem scells_length (S : List (List UInt8)) : (scells S).length = S.length := by simp [scells]
theorem scells_get {S : List (List UInt8)} {k : Nat} (h : k < S.length) : (scells S)[k]? = some (.string (Om.B (S.getD k []))) := by
  simp [scells, h]
theorem scells_snoc (S : List (List UInt8)) (x : List UInt8) : scells (S ++ [x]) = scells S ++ [.string (Om.B x)] := by simp [scells]
theorem scells_set (S : List (List UInt8)) (k : Nat) (x : List UInt8) : scells (S.set k x) = (scells S).set k (.string (Om.B x)) := by simp [scells]
structure Rk (w : World) (r : Ro) (st : Dm.St) : Prop where
  ok : Dm.Ok st
  head : w.heap[r.p]? = some (.cells (r.cells st.fuse st.dead) 88 (0, 0))
  stands : w.ownsRow 0 9 1 r.sv st.S.length (scells st.S)
  pend : w.ownsRow 0 114 2 r.pv st.P.length (wcells st.P)
  high : st.fuse ≤ 9223372036854775807

theorem Rk.lt {w : World} {r : Ro} {st : Dm.St} (h : Rk w r st) (k : Nat) (hk : r.fp k) : k < w.heap.size := by
  rcases hk with rfl | hk | hk
  · exact lt_of_heap h.head
  · obtain ⟨cur, hc⟩ := own_block h.stands k hk; exact lt_of_heap hc
  · obtain ⟨cur, hc⟩ := own_block h.pend k hk; exact lt_of_heap hc
theorem Rk.same {w w' : World} {r : Ro} {st : Dm.St} (h : Rk w r st) (hb : ∀ k, r.fp k → w'.heap[k]? = w.heap[k]?) : Rk w' r st :=
  ⟨h.ok, (hb _ (.inl rfl)).trans h.head, own_same h.stands fun k hk => hb k (.inr (.inl hk)), own_same h.pend fun k hk => hb k (.inr (.inr hk)), h.high⟩
theorem Rk.keep {w w' : World} {r : Ro} {st : Dm.St} {F : Nat → Prop} (h : Rk w r st) (hf : Fr F w w') (hd : ∀ k, r.fp k → ¬ F k) : Rk w' r st := h.same fun k hk => hf.block k (h.lt k hk) (hd k hk)
theorem Rk.below {w w' : World} {r : Ro} {st : Dm.St} (h : Rk w r st) (hb : Below w.heap.size w w') : Rk w' r st := h.same fun k hk => hb.block k (h.lt k hk)
theorem Rk.apart {w : World} {r : Ro} {st : Dm.St} (h : Rk w r st) : (∀ k, r.sv.ownBlock = some k → k ≠ r.p) ∧ (∀ k, r.pv.ownBlock = some k → k ≠ r.p) ∧ (∀ k, r.sv.ownBlock = some k → r.pv.ownBlock ≠ some k) := by
  have h1 := h.head
  refine ⟨fun k hk e => ?_, fun k hk e => ?_, fun k hk e => ?_⟩
  · obtain ⟨cur, hc⟩ := own_block h.stands k hk; rw [e, h1] at hc; injection hc with hc; injection hc with _ hc; cases hc
  · obtain ⟨cur, hc⟩ := own_block h.pend k hk; rw [e, h1] at hc; injection hc with hc; injection hc with _ hc; cases hc
  · obtain ⟨cur, hc⟩ := own_block h.stands k hk
    obtain ⟨cur', hc'⟩ := own_block h.pend k e
    rw [hc] at hc'; injection hc' with hc'; injection hc' with _ hc'; cases hc'
theorem Rk.reads {w : World} {r : Ro} {st : Dm.St} (h : Rk w r st) :
    w.cell? ⟨r.p, 0, none⟩ = some r.sv ∧ w.cell? ⟨r.p, 1, none⟩ = some r.pv ∧ w.cell? ⟨r.p, 2, none⟩ = some (.int .i64 st.fuse) ∧ w.cell? ⟨r.p, 3, none⟩ = some (.bool st.dead) ∧ ∀ j, w.frozen? ⟨r.p, j, none⟩ = false := by
  refine ⟨?_, ?_, ?_, ?_, fun j => frozen_of_row _ _ _ _ _ h.head⟩ <;> (rw [cell_of_row _ _ _ _ _ _ h.head]; rfl)

/-- One step of it: its own blocks alone may turn; what is its own behind it was so, or is new. -/
structure RStep (r r' : Ro) (w w' : World) : Prop where
  fr : Fr r.fp w w'
  fp : ∀ k, r'.fp k → r.fp k ∨ w.heap.size ≤ k
  p : r'.p = r.p
theorem RStep.refl (r : Ro) (w : World) : RStep r r w w := ⟨Fr.refl _ _, fun _ h => .inl h, rfl⟩
theorem RStep.trans {a b c : Ro} {u v w : World} (h : RStep a b u v) (k : RStep b c v w) : RStep a c u w := by
  refine ⟨h.fr.trans k.fr fun i hi hb => ?_, fun i hi => ?_, k.p.trans h.p⟩
  · rcases h.fp i hb with h1 | h1
    · exact h1
    · omega
  · rcases k.fp i hi with h1 | h1
    · exact h.fp i h1
    · exact .inr (Nat.le_trans h.fr.size h1)
theorem RStep.of_below {r : Ro} {w w' : World} (h : Below w.heap.size w w') : RStep r r w w' := ⟨Fr.of_below h, fun _ h => .inl h, rfl⟩
def RWent (r : Ro) (st : Dm.St) (w w' : World) : Prop := ∃ r', Rk w' r' st ∧ RStep r r' w w'
theorem RWent.refl {r : Ro} {st : Dm.St} {w : World} (h : Rk w r st) : RWent r st w w := ⟨r, h, RStep.refl _ _⟩
theorem RWent.trans {r : Ro} {st : Dm.St} {w w1 w2 : World} {r1 : Ro} (h1 : RStep r r1 w w1) (h : RWent r1 st w1 w2) : RWent r st w w2 := by
  obtain ⟨r2, hd, hs⟩ := h
  exact ⟨r2, hd, h1.trans hs⟩
theorem rstep_head (r r' : Ro) (w : World) (i : Nat) (v : Value) (hfp : ∀ k, r'.fp k → r.fp k) (hp : r'.p = r.p) : RStep r r' w (w.setCell ⟨r.p, i, none⟩ v) :=
  ⟨(Fr.refl _ _).setCell _ (.inl rfl) _, fun k hk => .inl (hfp k hk), hp⟩

theorem Rk.setFuse {w : World} {r : Ro} {st : Dm.St} (h : Rk w r st) (f : Int) (hl : -1 ≤ f) (hh : f ≤ 9223372036854775807) : Rk (w.setCell ⟨r.p, 2, none⟩ (.int .i64 f)) r { st with fuse := f } := by
  obtain ⟨a1, a2, _⟩ := h.apart
  refine ⟨⟨h.ok.sectors, h.ok.writes, hl, h.ok.few⟩, ?_, own_same h.stands fun k hk => Below.heap_setCell _ _ _ _ (a1 k hk), own_same h.pend fun k hk => Below.heap_setCell _ _ _ _ (a2 k hk), hh⟩
  rw [heap_setCell_same _ _ _ _ _ _ h.head]; rfl
theorem Rk.setDead {w : World} {r : Ro} {st : Dm.St} (h : Rk w r st) (b : Bool) : Rk (w.setCell ⟨r.p, 3, none⟩ (.bool b)) r { st with dead := b } := by
  obtain ⟨a1, a2, _⟩ := h.apart
  refine ⟨⟨h.ok.sectors, h.ok.writes, h.ok.fuse, h.ok.few⟩, ?_, own_same h.stands fun k hk => Below.heap_setCell _ _ _ _ (a1 k hk), own_same h.pend fun k hk => Below.heap_setCell _ _ _ _ (a2 k hk), h.high⟩
  rw [heap_setCell_same _ _ _ _ _ _ h.head]; rfl
theorem Rk.setNone {w : World} {r : Ro} {st : Dm.St} (h : Rk w r st) : Rk (w.setCell ⟨r.p, 1, none⟩ (.slice none 0 0)) { r with pv := .slice none 0 0 } { st with P := [] } := by
  obtain ⟨a1, a2, _⟩ := h.apart
  refine ⟨⟨h.ok.sectors, (fun x hx => by cases hx), h.ok.fuse, h.ok.few⟩, ?_, own_same h.stands fun k hk => Below.heap_setCell _ _ _ _ (a1 k hk), World.ownsRow_nil _ _ _ _, h.high⟩
  rw [heap_setCell_same _ _ _ _ _ _ h.head]; rfl

end Dsk
end Go.Proofs.Ytbmabcddciibfaa