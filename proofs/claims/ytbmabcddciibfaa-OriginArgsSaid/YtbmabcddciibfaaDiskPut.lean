/- The contract of the disk's put. -/
import Derived.Test.YtbmabcddciibfaaDiskSettle
import Derived.Test.YtbmabcddciibfaaAppendHome
namespace Go.Proofs.Ytbmabcddciibfaa
namespace Dsk
open Go.RowKit
set_option maxRecDepth 100000
set_option linter.unusedVariables false
theorem info_write : (Try.prog.info? 69).map (fun i => (i.zero, i.size, i.bytes)) = some (some (.agg #[.int .i64 0, .string ⟨#[]⟩]), 2, 24) := by kernel_rfl
theorem int_law : Maps.Keyed Try.prog 3 := Maps.int_keyed Try.underlying3

theorem put_any {w : World} {o : Ob} {st : Dm.St} (h : Dk w o st) (k : Nat) (l : List UInt8) (hk : k < st.S.length) (hl : l.length = 64) (hP : st.P.length ≤ 1099511627776) :
    Calls Try.prog 45 #[.pointer (some ⟨o.p, 0, none⟩), .int .i64 (k : Int), .string (Om.B l)] w fun e w' => e = .returned (.tuple #[]) ∧ Went o (Dm.put st k l) w w' := by
  obtain ⟨i0, hi, hz0, hz1, hz2⟩ := info_parts info_write
  obtain ⟨_, h1, h2, _, _, hf⟩ := h.reads
  have hp := lt_of_heap h.head
  have hfew := h.ok.few
  obtain ⟨pa, pc, hpv⟩ := own_slice h.pend
  obtain ⟨D, nm, hm, hnm, hmo⟩ := h.newest
  obtain ⟨a1, a2, a4, a3⟩ := h.apart
  have hown := h.pend
  rw [hpv] at h1 hown
  obtain ⟨n, hn⟩ : ∃ n, n = st.P.length := ⟨_, rfl⟩
  have HO : Hid (w.ownsRow 0 69 2 (.slice pa n pc) n (wcells st.P)) := by rw [hn]; exact hown
  rw [← hn] at h1 hP hnm
  have H := Lib.hid h
  have HM := Lib.hid hm
  have HMO := Lib.hid hmo
  have HPV : Hid (o.pv = .slice pa n pc) := by rw [hn]; exact hpv
  have HN := Lib.hid hn
  have HH := Lib.hid h.head
  clear hf h hm hmo hpv hown hn
  go_enter Try.func45, Try.ntmps45
  go_wp2
  refine still_tail 10 (by kernel_rfl) (by kernel_rfl) ?_
  intro w2 hw2
  have g1 : w2.cell? ⟨o.p, 1, none⟩ = some (.slice pa n pc) := by rw [hw2.out]; exact h1
  have g2 : w2.cell? ⟨o.p, 2, none⟩ = some (.map (some o.mb)) := by rw [hw2.out]; exact h2
  have GM := Lib.hid (show w2.ownsMap _ _ _ _ _ _ by rw [hw2.out]; exact HM.out.drew)
  clear h1 h2
  simp only [List.take_succ_cons, List.take_zero, List.drop_succ_cons, List.drop_zero]
  repeat still_step
  refine wpStill_nil ?_
  refine wpList_mapUpdate_own _ rfl _ _ _ 57 rfl 3 3 int_law Try.underlying57 _ o.mb nm D rfl GM.out (by unfold maxLen; omega) _ _ (.int .i64 (k : Int)) rfl rfl (Maps.keyOf_int_mk Try.underlying3 (WalkArith.wf_i64 (by omega))) (.lit (.int .i64 (n : Int))) [] (plainElem_int Try.underlying3 (WalkArith.wf_i64 (by omega))) ?_
  intro w3 hm3 hg3
  have hh3 : w3.heap[o.p]? = some (.cells (o.cells (64 * st.S.length) st.dead) 60 (0, 0)) := by
    rw [hg3.block o.p (by rw [hw2.out]; exact hp) (by simpa using Ne.symm a2), hw2.out]; exact HH.out
  have e1 : w3.cell? ⟨o.p, 1, none⟩ = some (.slice pa n pc) := by
    rw [cell_of_row _ _ _ _ _ _ hh3, ← HPV.out]; rfl
  have f1 : w3.frozen? ⟨o.p, 1, none⟩ = false := frozen_of_row _ _ _ _ _ hh3
  have HO3 : Hid (w3.ownsRow 0 69 2 (.slice pa n pc) n (wcells st.P)) := by
    refine own_same HO.out fun j hj => ?_
    have hj' : o.pv.ownBlock = some j := by rw [HPV.out]; exact hj
    rw [hg3.block j (by rw [hw2.out]; exact H.out.lt j (.inr (.inr (.inl hj')))) (by simpa using (a3 j hj').2.2), hw2.out]; rfl
  have HM3 := Lib.hid hm3
  have HG3 := Lib.hid hg3
  have HH3 := Lib.hid hh3
  clear hm3 hg3 hh3 g1 g2
  go_wp2_with (at_builtin; refine wpList_append_home rfl _ _ 58 rfl 69 i0 _ 2 24 Try.underlying58 hi hz0 hz1 hz2 rfl (by decide) _ _ _ rfl (HO3.out.alloc _) ⟨w3.heap.size, 0, none⟩ 1 1 [.int .i64 (k : Int), .string (Om.B l)] rfl rfl ?c1 ?c2 ?c3 ?c4 ?_)
  case c1 =>
    intro j u hu
    rcases j with _ | _ | j
    · injection hu with hu; subst hu; exact World.cell?_alloc_at _ _ _ _ rfl
    · injection hu with hu; subst hu; exact World.cell?_alloc_at _ _ _ _ rfl
    · simp at hu
  case c2 =>
    intro u hu
    rcases List.mem_cons.1 hu with rfl | hu
    · rfl
    · rw [List.mem_singleton.1 hu]; rfl
  case c3 => unfold maxLen; omega
  case c4 => omega
  intro v4 w4 hown4 hg4 hv4
  have hsz3 : w2.heap.size ≤ w3.heap.size := HG3.out.size
  have hh4 : w4.heap[o.p]? = some (.cells (o.cells (64 * st.S.length) st.dead) 60 (0, 0)) := by
    have hp3 := lt_of_heap HH3.out
    rw [hg4.block o.p (by simp; omega) (fun e => (a3 o.p (by rw [HPV.out]; exact e.symm)).1 rfl), Below.heap_alloc _ _ _ hp3]; exact HH3.out
  have e4 : w4.cell? ⟨o.p, 1, none⟩ = some (.slice pa n pc) := by rw [cell_of_row _ _ _ _ _ _ hh4, ← HPV.out]; rfl
  have f4 : w4.frozen? ⟨o.p, 1, none⟩ = false := frozen_of_row _ _ _ _ _ hh4
  obtain ⟨a', c', rfl⟩ := own_slice hown4
  have HO4 := Lib.hid hown4
  have HG4 := Lib.hid hg4
  have HV4 := Lib.hid hv4
  have HH4 := Lib.hid hh4
  clear hown4 hg4 hh4 hv4
  go_wp2
  go_end0
  have hs3 : w.heap.size ≤ w3.heap.size := by have := HG3.out.size; rw [hw2.out] at this; exact this
  have hs4 : w3.heap.size < w4.heap.size := by have := HG4.out.size; simp at this; omega
  have hb3 : ∀ j, j < w.heap.size → j ≠ o.mb → w3.heap[j]? = w.heap[j]? := fun j hj hne => by
    rw [HG3.out.block j (by rw [hw2.out]; exact hj) (by simpa using hne), hw2.out]; rfl
  have hb4 : ∀ j, j < w3.heap.size → o.pv.ownBlock ≠ some j → w4.heap[j]? = w3.heap[j]? := fun j hj hne => by
    rw [HG4.out.block j (by simp; omega) (fun e => hne (by rw [HPV.out]; exact e.symm)), Below.heap_alloc _ _ _ hj]
  have hsb : o.sb < w.heap.size := lt_of_heap H.out.stands
  have hmb : o.mb < w.heap.size := H.out.lt o.mb (.inr (.inr (.inr rfl)))
  have hfp : ∀ j, (Value.slice a' (n + 1) c').ownBlock = some j → j ≠ o.p := fun j hj e => by
    obtain ⟨cur, hc⟩ := own_block HO4.out j hj
    rw [e, HH4.out] at hc; injection hc with hc; injection hc with _ hc; cases hc
  refine ⟨rfl, { o with pv := .slice a' (n + 1) c' }, ?_, ⟨?_, ?_, rfl⟩⟩
  · refine ⟨Dm.put_ok H.out.ok k l hk hl, ?_, ?_, ?_, ⟨_, nm + 1, map_same (map_same HM3.out (hb4 _ (show o.mb < _ by omega) fun e => (a3 _ e).2.2 rfl)) (Below.heap_setCell _ _ _ _ a2), ?_, ?_⟩, H.out.fuse, H.out.low, H.out.high⟩
    · rw [heap_setCell_same _ _ _ _ _ _ HH4.out]; rfl
    · rw [Below.heap_setCell _ _ _ _ a1, hb4 _ (by omega) (fun e => (a3 _ e).2.1 rfl), hb3 _ hsb (Ne.symm a4)]; exact H.out.stands
    · have := own_same HO4.out (w' := w4.setCell ⟨o.p, 1, none⟩ (.slice a' (n + 1) c')) fun j hj => Below.heap_setCell _ _ _ _ (hfp j hj)
      rw [HN.out, ← wcells_snoc] at this
      show World.ownsRow _ _ _ _ _ (st.P ++ [(k, l)]).length (wcells (st.P ++ [(k, l)]))
      rw [List.length_append, HN.out]
      exact this
    · show nm + 1 ≤ (st.P ++ [(k, l)]).length; rw [List.length_append, ← HN.out]; simp; omega
    · have := mapOk_put HMO.out k l; rw [← HN.out] at this; exact this
  · refine Fr.setCell (b := w4) ⟨?_, ?_, ?_, by omega, fun j hj hF => ?_⟩ _ (.inl rfl) _
    · rw [HG4.out.os]; show w3.os = _; rw [HG3.out.os, hw2.out]; rfl
    · rw [HG4.out.tape]; show w3.tape = _; rw [HG3.out.tape, hw2.out]; rfl
    · rw [HG4.out.output]; show w3.output = _; rw [HG3.out.output, hw2.out]; rfl
    · rw [hb4 j (by omega) (fun e => hF (.inr (.inr (.inl e)))), hb3 j hj (fun e => hF (.inr (.inr (.inr e))))]
  · rintro j (hj | hj | hj | hj)
    · exact .inl (.inl hj)
    · exact .inl (.inr (.inl hj))
    · rcases HV4.out with e | e
      · exact .inl (.inr (.inr (.inl (by rw [HPV.out, ← e]; exact hj))))
      · right
        have hj2 : (Value.slice a' (n + 1) c').ownBlock = some j := hj
        rw [e] at hj2
        injection hj2 with hj2
        have hal : (w3.alloc (.cells #[.int .i64 (k : Int), .string (Om.B l)] 69)).heap.size = w3.heap.size + 1 := by simp
        omega
    · exact .inl (.inr (.inr (.inr hj)))
end Dsk
end Go.Proofs.Ytbmabcddciibfaa