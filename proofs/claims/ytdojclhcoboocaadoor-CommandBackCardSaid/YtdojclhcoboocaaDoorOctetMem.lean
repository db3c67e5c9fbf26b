/- Words for memory that the octet walks share: a slice that reads as a row of one-cell values, nil let in; small laws. -/
import Derived.Test.YtdojclhcoboocaaDoorOctetMath
import Derived.Test.YtdojclhcoboocaaDoorProg
import Derived.WalkKit
import Derived.OwnWalk
import Derived.Laws.OwnMore
import Derived.Laws.NewBlocks
import Derived.Laws.IdiomStrings
import Derived.Lib.Hide
import Derived.Lib.UnsafeStr
import Derived.Below
import Derived.Deep.Draws
namespace Go.Proofs.YtdojclhcoboocaaDoor
open Go.RowKit

/-- The slice at address a, n long, holds f 0, f 1, ..; where it has elements it lies below block B. -/
def Row (w : World) (B : Nat) (a : Option Addr) (n : Nat) (f : Nat → Value) : Prop :=
  0 < n → ∃ b off, a = some ⟨b, off, none⟩ ∧ b < B ∧ ∀ i, i < n → w.cell? ⟨b, off + i, none⟩ = some (f i)
theorem Row.empty (w : World) (B : Nat) (a : Option Addr) (f : Nat → Value) : Row w B a 0 f := fun h => absurd h (by omega)
theorem Row.keep {w w' : World} {B : Nat} {a : Option Addr} {n : Nat} {f : Nat → Value} (h : Row w B a n f) (hk : ∀ p : Addr, p.block < B → w'.cell? p = w.cell? p) : Row w' B a n f := fun hn => by
  obtain ⟨b, off, e, hb, hc⟩ := h hn
  exact ⟨b, off, e, hb, fun i hi => (hk ⟨b, off + i, none⟩ hb).trans (hc i hi)⟩
theorem Row.below {w w' : World} {B : Nat} {a : Option Addr} {n : Nat} {f : Nat → Value} (h : Row w B a n f) (hb : Below B w w') : Row w' B a n f := h.keep fun _ hp => hb.cell hp
theorem Row.more {w : World} {B B' : Nat} {a : Option Addr} {n : Nat} {f : Nat → Value} (h : Row w B a n f) (hB : B ≤ B') : Row w B' a n f := fun hn => by
  obtain ⟨b, off, e, hb, hc⟩ := h hn
  exact ⟨b, off, e, by omega, hc⟩
theorem Row.congr {w : World} {B : Nat} {a : Option Addr} {n : Nat} {f g : Nat → Value} (h : Row w B a n f) (hg : ∀ i, i < n → f i = g i) : Row w B a n g := fun hn => by
  obtain ⟨b, off, e, hb, hc⟩ := h hn
  exact ⟨b, off, e, hb, fun i hi => by rw [← hg i hi]; exact hc i hi⟩
theorem Row.own {w : World} {base : Nat} {t : TypeId} {a : Option Addr} {n c : Nat} {xs : List Value} {f : Nat → Value} (h : w.ownsRow base t 1 (.slice a n c) n xs) (hf : ∀ i, i < n → xs[i]? = some (f i)) : Row w w.heap.size a n f := fun hn => by
  rcases h.2 with ⟨_, h0⟩ | ⟨g, cap, cur, hv, _, hg, _⟩
  · omega
  · injection hv with ha _ hc
    subst ha
    subst hc
    have hlt : g < w.heap.size := by
      rcases Nat.lt_or_ge g w.heap.size with h' | h'
      · exact h'
      · rw [Array.getElem?_eq_none h'] at hg; cases hg
    exact ⟨g, 0, rfl, hlt, fun i hi => by rw [Nat.zero_add, h.cellAt i (by omega)]; exact hf i hi⟩

theorem grown_of_below {a w : World} (h : Below a.heap.size a w) (row : Option Nat) : a.grownBy w row := ⟨h.os, h.tape, h.output, h.size, fun i hi _ => h.block i hi⟩
theorem own_below {w w' : World} {base : Nat} {t : TypeId} {sz : Nat} {v : Value} {n : Nat} {xs : List Value} (h : w.ownsRow base t sz v n xs) (hb : Below w.heap.size w w') : w'.ownsRow base t sz v n xs := by
  refine h.kept (grown_of_below hb none) ?_
  cases v.ownBlock <;> simp
theorem below_drewN {B : Nat} {a w : World} (h : Below B a w) (n : Nat) : Below B a (w.drewN n) := ⟨h.os, h.tape, h.output, h.size, h.block⟩
theorem lt_of_cell {w : World} {a : Addr} {v : Value} (h : w.cell? a = some v) : a.block < w.heap.size := by
  unfold World.cell? at h
  by_cases hb : a.block < w.heap.size
  · exact hb
  · rw [Array.getElem?_eq_none (by omega)] at h
    simp at h
theorem info_u8 : (Tryd.prog.info? 5).map (fun i => (i.zero, i.size, i.bytes)) = some (some (.int .u8 0), 1, 1) := by kernel_rfl
theorem info_u64 : (Tryd.prog.info? 67).map (fun i => (i.zero, i.size, i.bytes)) = some (some (.int .u64 0), 1, 8) := by kernel_rfl
end Go.Proofs.YtdojclhcoboocaaDoor
