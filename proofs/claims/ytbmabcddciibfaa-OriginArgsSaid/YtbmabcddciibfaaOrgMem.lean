/- An origin: plain words; how one lies in memory. -/
import Derived.Test.YtbmabcddciibfaaDiskMem
import Derived.Test.YtbmabcddciibfaaGeomRight
namespace Go.Proofs.Ytbmabcddciibfaa
namespace Og
open Go.RowKit
set_option linter.unusedVariables false
/-- Are these sectors all the origin's? -/
def hasB (n : Nat) (a k : Int) : Bool := decide (0 ≤ a) && decide (0 ≤ k) && decide (k ≤ (n : Int) - a)
theorem hasB_iff {n : Nat} {a k : Int} : hasB n a k = true ↔ 0 ≤ a ∧ 0 ≤ k ∧ k ≤ (n : Int) - a := by simp [hasB, and_assoc]
/-- What is told of a read, a write. -/
def rE (n : Nat) (st : Dm.St) (a k : Int) : Int := if hasB n a k = true then Dm.readE st (17 + a) k else 2
def rS (n : Nat) (st : Dm.St) (a k : Int) : List UInt8 := if hasB n a k = true then Dm.readS st (17 + a) k else []
def wE (n : Nat) (st : Dm.St) (a : Int) (d : List UInt8) : Int := if d.length % 64 = 0 then if hasB n a ((d.length / 64 : Nat) : Int) = true then (Dm.write st (17 + a) d).2 else 2 else 1
def wS (n : Nat) (st : Dm.St) (a : Int) (d : List UInt8) : Dm.St := if d.length % 64 = 0 then if hasB n a ((d.length / 64 : Nat) : Int) = true then (Dm.write st (17 + a) d).1 else st else st

/-- Where an origin lies: its block, its disk. -/
structure Bo where
  q : Nat
  d : Dsk.Ob
def Bo.fp (o : Bo) (k : Nat) : Prop := k = o.q ∨ o.d.fp k
def Bo.cells (o : Bo) (n g : Nat) : Array Value := #[.pointer (some ⟨o.d.p, 0, none⟩), .int .i64 17, .int .i64 (n : Int), .int .i64 (n : Int), .int .i64 (g : Int)]
structure Gk (w : World) (o : Bo) (n g : Nat) (st : Dm.St) : Prop where
  head : w.heap[o.q]? = some (.cells (o.cells n g) 54 (0, 0))
  dk : Dsk.Dk w o.d st
  qd : ¬ o.d.fp o.q
  right : Em.rightB (n : Int) (g : Int) = true
  room : 17 + n ≤ st.S.length
theorem Gk.lt {w : World} {o : Bo} {n g : Nat} {st : Dm.St} (h : Gk w o n g st) (k : Nat) (hk : o.fp k) : k < w.heap.size := by
  rcases hk with rfl | hk
  · exact Dsk.lt_of_heap h.head
  · exact h.dk.lt k hk
theorem Gk.same {w w' : World} {o : Bo} {n g : Nat} {st : Dm.St} (h : Gk w o n g st) (hb : ∀ k, o.fp k → w'.heap[k]? = w.heap[k]?) : Gk w' o n g st :=
  ⟨(hb _ (.inl rfl)).trans h.head, h.dk.same fun k hk => hb k (.inr hk), h.qd, h.right, h.room⟩
theorem Gk.below {w w' : World} {o : Bo} {n g : Nat} {st : Dm.St} (h : Gk w o n g st) (hb : Below w.heap.size w w') : Gk w' o n g st := h.same fun k hk => hb.block k (h.lt k hk)
theorem Gk.keep {w w' : World} {o : Bo} {n g : Nat} {st : Dm.St} {F : Nat → Prop} (h : Gk w o n g st) (hf : Dsk.Fr F w w') (hd : ∀ k, o.fp k → ¬ F k) : Gk w' o n g st := h.same fun k hk => hf.block k (h.lt k hk) (hd k hk)
theorem Gk.reads {w : World} {o : Bo} {n g : Nat} {st : Dm.St} (h : Gk w o n g st) :
    w.cell? ⟨o.q, 0, none⟩ = some (.pointer (some ⟨o.d.p, 0, none⟩)) ∧ w.cell? ⟨o.q, 1, none⟩ = some (.int .i64 17) ∧ w.cell? ⟨o.q, 2, none⟩ = some (.int .i64 (n : Int)) ∧
    w.cell? ⟨o.q, 3, none⟩ = some (.int .i64 (n : Int)) ∧ w.cell? ⟨o.q, 4, none⟩ = some (.int .i64 (g : Int)) := by
  refine ⟨?_, ?_, ?_, ?_, ?_⟩ <;> (rw [cell_of_row _ _ _ _ _ _ h.head]; rfl)
theorem Gk.small {w : World} {o : Bo} {n g : Nat} {st : Dm.St} (h : Gk w o n g st) : 1 ≤ n ∧ n ≤ 1048576 ∧ 1 ≤ g ∧ g ≤ 128 := by
  have := (Em.right_iff (n : Int) (g : Int)).1 h.right
  omega
/-- One step of it. -/
structure Step (o o' : Bo) (w w' : World) : Prop where
  fr : Dsk.Fr o.fp w w'
  fp : ∀ k, o'.fp k → o.fp k ∨ w.heap.size ≤ k
  q : o'.q = o.q
  d : Dsk.Step o.d o'.d w w'
theorem Step.of_below {o : Bo} {w w' : World} (h : Below w.heap.size w w') : Step o o w w' := ⟨Dsk.Fr.of_below h, fun _ h => .inl h, rfl, Dsk.Step.of_below h⟩
theorem Step.trans {a b c : Bo} {u v w : World} (h : Step a b u v) (k : Step b c v w) : Step a c u w := by
  refine ⟨h.fr.trans k.fr fun i hi hb => ?_, fun i hi => ?_, k.q.trans h.q, h.d.trans k.d⟩
  · rcases h.fp i hb with h1 | h1
    · exact h1
    · omega
  · rcases k.fp i hi with h1 | h1
    · exact h.fp i h1
    · exact .inr (Nat.le_trans h.fr.size h1)
/-- Its disk has gone on. -/
theorem Gk.disk {w w' : World} {o : Bo} {n g : Nat} {st st' : Dm.St} (h : Gk w o n g st) {d' : Dsk.Ob} (hd : Dsk.Dk w' d' st') (hs : Dsk.Step o.d d' w w') (hl : st'.S.length = st.S.length) :
    Gk w' ⟨o.q, d'⟩ n g st' ∧ Step o ⟨o.q, d'⟩ w w' := by
  have hq := h.lt o.q (.inl rfl)
  refine ⟨⟨?_, hd, fun hk => (hs.fp _ hk).elim h.qd (fun c => by have c : w.heap.size ≤ o.q := c; omega), h.right, by rw [hl]; exact h.room⟩, ⟨hs.fr.mono fun k _ hk => .inr hk, fun k hk => ?_, rfl, hs⟩⟩
  · show w'.heap[o.q]? = some (.cells #[.pointer (some ⟨d'.p, 0, none⟩), _, _, _, _] _ _)
    rw [hs.fr.block o.q hq h.qd, h.head, hs.p]
    rfl
  · rcases hk with rfl | hk
    · exact .inl (.inl rfl)
    · exact (hs.fp k hk).imp (fun h => .inr h) id
def Went (o : Bo) (n g : Nat) (st : Dm.St) (w w' : World) : Prop := ∃ o', Gk w' o' n g st ∧ Step o o' w w'
theorem Went.of_below {o : Bo} {n g : Nat} {st : Dm.St} {w w' : World} (h : Gk w o n g st) (hb : Below w.heap.size w w') : Went o n g st w w' := ⟨o, h.below hb, Step.of_below hb⟩
theorem Went.below {o : Bo} {n g : Nat} {st : Dm.St} {w w1 w2 : World} (hb : Below w.heap.size w w1) (h : Went o n g st w1 w2) : Went o n g st w w2 := by
  obtain ⟨o', h1, h2⟩ := h
  exact ⟨o', h1, (Step.of_below hb).trans h2⟩
end Og
end Go.Proofs.Ytbmabcddciibfaa