/- Contracts of the document's disk: Write, Flush, Restart, of all cases. -/
import Derived.Test.YtbmabcddciibfaaDiskRWrite
namespace Go.Proofs.Ytbmabcddciibfaa
namespace Dsk
open Go.RowKit
set_option linter.unusedVariables false
theorem Rk.setStands {w : World} {r : Ro} {st : Dm.St} (h : Rk w r st) {g n cap : Nat} (hv : r.sv = .slice (some ⟨g, 0, none⟩) n cap) (k : Nat) (l : List UInt8) (hl : l.length = 64) :
    Rk (w.setCell ⟨g, k, none⟩ (.string (Om.B l))) r { st with S := st.S.set k l } ∧ RStep r r w (w.setCell ⟨g, k, none⟩ (.string (Om.B l))) := by
  obtain ⟨a1, a2, a3⟩ := h.apart
  have hg : r.sv.ownBlock = some g := by rw [hv]; rfl
  have hown := h.stands
  obtain ⟨pa, pc, hv2⟩ := own_slice hown
  have hn : n = st.S.length := by rw [hv] at hv2; injection hv2
  rw [hv, hn] at hown
  have hst := (hown.stored k (.string (Om.B l))).1
  refine ⟨⟨⟨?_, fun x hx => by rw [List.length_set]; exact h.ok.writes x hx, h.ok.fuse, by rw [List.length_set]; exact h.ok.few⟩, ?_, ?_, ?_, h.high⟩, ⟨(Fr.refl _ _).setCell _ (.inr (.inl hg)) _, fun _ h => .inl h, rfl⟩⟩
  · intro x hx
    rcases List.mem_or_eq_of_mem_set hx with h1 | h1
    · exact h.ok.sectors x h1
    · rw [h1]; exact hl
  · rw [Below.heap_setCell _ _ _ _ (Ne.symm (a1 g hg))]; exact h.head
  · show World.ownsRow _ _ _ _ r.sv (st.S.set k l).length (scells (st.S.set k l))
    rw [List.length_set, scells_set, hv, hn]
    exact hst
  · exact own_same h.pend fun j hj => Below.heap_setCell _ _ _ _ (fun e => a3 g hg (by have e : j = g := e; rw [← e]; exact hj))

structure RSet (r : Ro) (st : Dm.St) (keep : List Bool) (k : Nat) (w wr : World) : Prop where
  dk : Rk wr r { st with S := Dm.settle st.S (st.P.take k) keep }
  step : RStep r r w wr
theorem settle_over {S : List (List UInt8)} {P : List (Nat × List UInt8)} {keep : List Bool} {k : Nat} (h : keep.length ≤ k) : ∀ j, k ≤ j → j ≤ P.length → Dm.settle S (P.take j) keep = Dm.settle S (P.take k) keep := by
  intro j
  induction j with
  | zero => intro h1 _; obtain rfl : k = 0 := by omega
            rfl
  | succ j ih =>
    intro h1 h2
    by_cases e : k = j + 1
    · rw [e]
    · rw [settle_take (by omega), ← ih (by omega) (by omega)]
      rw [show keep.getD j false = false from by rw [List.getD_eq_getElem?_getD, List.getElem?_eq_none (by omega)]; rfl]
      rfl

end Dsk
end Go.Proofs.Ytbmabcddciibfaa