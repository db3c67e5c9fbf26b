/- Contracts of the document's disk: Write, Flush, Restart. -/
import Derived.Test.YtbmabcddciibfaaDiskRRead
import Derived.Deep.AppendLies
import Derived.Deep.RegionLaw
namespace Go.Proofs.Ytbmabcddciibfaa
namespace Dsk
open Go.RowKit
set_option linter.unusedVariables false
/-- Behind so many puts. -/
structure RMid (r : Ro) (st : Dm.St) (a : Nat) (cs : List (List UInt8)) (k : Nat) (w wr : World) (st' : Dm.St) (r' : Ro) : Prop where
  dk : Rk wr r' st'
  dead : st'.dead = false
  step : RStep r r' w wr
  puts : Dm.puts st a cs = Dm.puts st' (a + k) (cs.drop k)
  S : st'.S = st.S
  P : st'.P.length ≤ st.P.length + k
theorem spend_alive {st : Dm.St} (h : Dm.spendB st = true) : (Dm.spendS st).dead = false := by
  unfold Dm.spendB at h
  simp at h
  unfold Dm.spendS
  rw [if_neg h.1, if_neg (by simp [h.2])]
  exact h.2
theorem extract_mid (l : List UInt8) (a b : Nat) : (Om.B l).extract a b = Om.B ((l.drop a).take (b - a)) := by
  apply ByteArray.ext
  rw [ByteArray.data_extract]
  apply Array.ext'
  rw [Array.toList_extract, List.extract_eq_take_drop]
  rfl
/-- Behind an append onto the pending writes: all that is asked of the world. -/
structure RApp (r : Ro) (st : Dm.St) (x : Nat × List UInt8) (w w' : World) (v : Value) : Prop where
  os : w'.os = w.os
  tape : w'.tape = w.tape
  output : w'.output = w.output
  size : w.heap.size ≤ w'.heap.size
  block : ∀ k, k < w.heap.size → r.pv.ownBlock ≠ some k → w'.heap[k]? = w.heap[k]?
  own : w'.ownsRow 0 114 2 v (st.P.length + 1) (wcells (st.P ++ [x]))
  home : ∀ k, v.ownBlock = some k → r.pv.ownBlock = some k ∨ w.heap.size ≤ k
theorem RApp.of {r : Ro} {st : Dm.St} {a k : Nat} {l : List UInt8} {w w2 : World} {pa : Option Addr} {np pc g cap : Nat} (hpv : r.pv = .slice pa np pc) (hnp : np = st.P.length)
    (hown : w2.ownsRow 0 114 2 (.slice (some ⟨g, 0, none⟩) (np + 1) cap) (np + 1) (wcells st.P ++ [.int .i64 ((a : Int) + (k : Int)), .string (Om.B l)]))
    (hg : (w.alloc (.cells #[.int .i64 ((a : Int) + (k : Int)), .string (Om.B l)] 114)).drew.grownBy w2 (Value.slice pa np pc).ownBlock) (hat : (Value.slice pa np pc).ownBlock = some g ∨ g = w.heap.size + 1) :
    RApp r st (a + k, l) w w2 (.slice (some ⟨g, 0, none⟩) (np + 1) cap) := by
  have hz : (w.alloc (.cells #[.int .i64 ((a : Int) + (k : Int)), .string (Om.B l)] 114)).drew.heap.size = w.heap.size + 1 := by simp
  refine ⟨hg.os, hg.tape, hg.output, ?_, fun j hj hne => ?_, ?_, fun j hj => ?_⟩
  · have := hg.size; omega
  · rw [hpv] at hne
    exact (hg.block j (by omega) (fun e => hne e.symm)).trans (Below.heap_alloc _ _ _ hj)
  · rw [wcells_snoc, ← hnp]
    exact hown
  · injection hj with hj
    have hj : g = j := hj
    rw [hpv]
    rcases hat with e | e
    · exact .inl (by rw [e, hj])
    · exact .inr (by omega)
theorem RApp.head {r : Ro} {st : Dm.St} {x : Nat × List UInt8} {w w' : World} {v : Value} (h : RApp r st x w w' v) (hr : Rk w r st) : w'.heap[r.p]? = some (.cells (r.cells st.fuse st.dead) 88 (0, 0)) := by
  rw [h.block r.p (hr.lt _ (.inl rfl)) (fun e => (hr.apart.2.1 _ e) rfl)]; exact hr.head
theorem RApp.done {r : Ro} {st : Dm.St} {k : Nat} {l : List UInt8} {w w' : World} {v : Value} (h : RApp r st (k, l) w w' v) (hr : Rk w r st) (hk : k < st.S.length) (hl : l.length = 64) :
    Rk (w'.setCell ⟨r.p, 1, none⟩ v) { r with pv := v } (Dm.put st k l) ∧ RStep r { r with pv := v } w (w'.setCell ⟨r.p, 1, none⟩ v) := by
  have hh := h.head hr
  obtain ⟨a1, a2, a3⟩ := hr.apart
  have hvp : ∀ j, v.ownBlock = some j → j ≠ r.p := fun j hj e => by
    obtain ⟨cur, hc⟩ := own_block h.own j hj
    rw [e, hh] at hc; injection hc with hc; injection hc with _ hc; cases hc
  refine ⟨⟨Dm.put_ok hr.ok k l hk hl, ?_, ?_, ?_, hr.high⟩, ⟨?_, ?_, rfl⟩⟩
  · rw [heap_setCell_same _ _ _ _ _ _ hh]; rfl
  · refine own_same hr.stands fun j hj => ?_
    rw [Below.heap_setCell _ _ _ _ (a1 j hj)]
    exact h.block j (hr.lt j (.inr (.inl hj))) (a3 j hj)
  · have := own_same h.own (w' := w'.setCell ⟨r.p, 1, none⟩ v) fun j hj => Below.heap_setCell _ _ _ _ (hvp j hj)
    show World.ownsRow _ _ _ _ _ (st.P ++ [(k, l)]).length (wcells (st.P ++ [(k, l)]))
    rw [List.length_append]
    exact this
  · refine Fr.setCell (b := w') ⟨h.os, h.tape, h.output, h.size, fun j hj hF => ?_⟩ _ (.inl rfl) _
    exact h.block j hj (fun e => hF (.inr (.inr e)))
  · rintro j (hj | hj | hj)
    · exact .inl (.inl hj)
    · exact .inl (.inr (.inl hj))
    · rcases h.home j hj with e | e
      · exact .inl (.inr (.inr e))
      · exact .inr e
theorem info_rwrite : (Try.prog.info? 114).map (fun i => (i.zero, i.size, i.bytes)) = some (some (.agg #[.int .i64 0, .string ⟨#[]⟩]), 2, 24) := by kernel_rfl

end Dsk
end Go.Proofs.Ytbmabcddciibfaa