/- Contracts of the document's disk: Load, New(0). -/
import Derived.Test.YtbmabcddciibfaaDiskRRestart
namespace Go.Proofs.Ytbmabcddciibfaa
namespace Dsk
open Go.RowKit
set_option maxRecDepth 100000
set_option linter.unusedVariables false
/-- A disk of the document that is there; all that it is lies in new blocks. -/
def RMade (st : Dm.St) (B : Nat) (w : World) (e : Ending) (w' : World) : Prop := ∃ r, e = .returned (.pointer (some ⟨r.p, 0, none⟩)) ∧ Rk w' r st ∧ (∀ k, r.fp k → B ≤ k) ∧ Below B w w'

/-- Behind an append onto what stands: all that is asked of the world. -/
structure SApp (r : Ro) (st : Dm.St) (x : List UInt8) (w w' : World) (v : Value) : Prop where
  os : w'.os = w.os
  tape : w'.tape = w.tape
  output : w'.output = w.output
  size : w.heap.size ≤ w'.heap.size
  block : ∀ k, k < w.heap.size → r.sv.ownBlock ≠ some k → w'.heap[k]? = w.heap[k]?
  own : w'.ownsRow 0 9 1 v (st.S.length + 1) (scells (st.S ++ [x]))
  home : ∀ k, v.ownBlock = some k → r.sv.ownBlock = some k ∨ w.heap.size ≤ k
theorem SApp.of {r : Ro} {st : Dm.St} {l : List UInt8} {w w2 : World} {pa : Option Addr} {np pc g cap : Nat} (hpv : r.sv = .slice pa np pc) (hnp : np = st.S.length)
    (hown : w2.ownsRow 0 9 1 (.slice (some ⟨g, 0, none⟩) (np + 1) cap) (np + 1) (scells st.S ++ [.string (Om.B l)]))
    (hg : (w.alloc (.cells #[.string (Om.B l)] 9)).drew.grownBy w2 (Value.slice pa np pc).ownBlock) (hat : (Value.slice pa np pc).ownBlock = some g ∨ g = w.heap.size + 1) :
    SApp r st l w w2 (.slice (some ⟨g, 0, none⟩) (np + 1) cap) := by
  have hz : (w.alloc (.cells #[.string (Om.B l)] 9)).drew.heap.size = w.heap.size + 1 := by simp
  refine ⟨hg.os, hg.tape, hg.output, ?_, fun j hj hne => ?_, ?_, fun j hj => ?_⟩
  · have := hg.size; omega
  · rw [hpv] at hne
    exact (hg.block j (by omega) (fun e => hne e.symm)).trans (Below.heap_alloc _ _ _ hj)
  · rw [scells_snoc, ← hnp]
    exact hown
  · injection hj with hj
    have hj : g = j := hj
    rw [hpv]
    rcases hat with e | e
    · exact .inl (by rw [e, hj])
    · exact .inr (by omega)
theorem SApp.head {r : Ro} {st : Dm.St} {x : List UInt8} {w w' : World} {v : Value} (h : SApp r st x w w' v) (hr : Rk w r st) : w'.heap[r.p]? = some (.cells (r.cells st.fuse st.dead) 88 (0, 0)) := by
  rw [h.block r.p (hr.lt _ (.inl rfl)) (fun e => (hr.apart.1 _ e) rfl)]; exact hr.head
theorem SApp.done {r : Ro} {st : Dm.St} {l : List UInt8} {w w' : World} {v : Value} (h : SApp r st l w w' v) (hr : Rk w r st) (hl : l.length = 64) (hf : st.S.length + 1 ≤ 1048576) :
    Rk (w'.setCell ⟨r.p, 0, none⟩ v) { r with sv := v } { st with S := st.S ++ [l] } ∧ RStep r { r with sv := v } w (w'.setCell ⟨r.p, 0, none⟩ v) := by
  have hh := h.head hr
  obtain ⟨a1, a2, a3⟩ := hr.apart
  have hvp : ∀ j, v.ownBlock = some j → j ≠ r.p := fun j hj e => by
    obtain ⟨cur, hc⟩ := own_block h.own j hj
    rw [e, hh] at hc; injection hc with hc; injection hc with _ hc; cases hc
  refine ⟨⟨⟨?_, fun x hx => ?_, hr.ok.fuse, by rw [List.length_append]; exact hf⟩, ?_, ?_, ?_, hr.high⟩, ⟨?_, ?_, rfl⟩⟩
  · intro x hx
    rcases List.mem_append.1 hx with hx | hx
    · exact hr.ok.sectors x hx
    · rw [List.mem_singleton.1 hx]; exact hl
  · obtain ⟨h1, h2⟩ := hr.ok.writes x hx
    exact ⟨by rw [List.length_append]; exact Nat.lt_of_lt_of_le h1 (Nat.le_add_right _ _), h2⟩
  · rw [heap_setCell_same _ _ _ _ _ _ hh]; rfl
  · have := own_same h.own (w' := w'.setCell ⟨r.p, 0, none⟩ v) fun j hj => Below.heap_setCell _ _ _ _ (hvp j hj)
    show World.ownsRow _ _ _ _ _ (st.S ++ [l]).length (scells (st.S ++ [l]))
    rw [List.length_append]
    exact this
  · refine own_same hr.pend fun j hj => ?_
    rw [Below.heap_setCell _ _ _ _ (a2 j hj)]
    exact h.block j (hr.lt j (.inr (.inr hj))) (fun e => a3 j e hj)
  · refine Fr.setCell (b := w') ⟨h.os, h.tape, h.output, h.size, fun j hj hF => ?_⟩ _ (.inl rfl) _
    exact h.block j hj (fun e => hF (.inr (.inl e)))
  · rintro j (hj | hj | hj)
    · exact .inl (.inl hj)
    · rcases h.home j hj with e | e
      · exact .inl (.inr (.inl e))
      · exact .inr e
    · exact .inl (.inr (.inr hj))
theorem info_string : (Try.prog.info? 9).map (fun i => (i.zero, i.size, i.bytes)) = some (some (.string ⟨#[]⟩), 1, 16) := by kernel_rfl

theorem made_empty (w : World) : Rk (w.alloc (.cells #[.slice none 0 0, .slice none 0 0, .int .i64 (-1), .bool false] 88)) ⟨w.heap.size, .slice none 0 0, .slice none 0 0⟩ ⟨[], [], -1, false⟩ :=
  ⟨⟨(fun x hx => by cases hx), (fun x hx => by cases hx), Int.le_refl _, Nat.zero_le _⟩, heap_alloc_new _ _, World.ownsRow_nil _ _ _ _, World.ownsRow_nil _ _ _ _, (by decide)⟩

set_option maxHeartbeats 1000000 in
theorem rload_any (l : List UInt8) (w : World) (h : l.length ≤ 67108864) : Calls Try.prog 29 #[.string (Om.B l)] w fun e w' => RMade (Dm.load l) w.heap.size w e w' := by
  obtain ⟨i0, hi, hz0, hz1, hz2⟩ := info_parts info_string
  go_enter Try.func29, Try.ntmps29
  go_wp2
  go_loop [0] (fun s => ∃ j : Nat, j ≤ (64 - l.length % 64) % 64 ∧ s = .string (Om.B (l ++ List.replicate j 0))) (fun s => match s with | .string b => 67108928 - b.size | _ => 0)
  case atStart => exact ⟨0, Nat.zero_le _, by simp⟩
  case round =>
    obtain ⟨j, hj, rfl⟩ := hrel
    have hsz : (Om.B (l ++ List.replicate j 0)).size = l.length + j := by rw [Om.B_size, List.length_append, List.length_replicate]
    by_cases hlt : (l.length + j) % 64 = 0
    · have hjj : l ++ List.replicate j 0 = Dm.pad l := by unfold Dm.pad; congr 2; omega
      rw [hjj] at hsz
      obtain ⟨n, hn⟩ : ∃ n, n = l.length + j := ⟨_, rfl⟩
      rw [← hn] at hsz hlt
      have hmod : ((n : Int) % 64 != 0) = false := by simp; omega
      have hnb : n ≤ 67108928 := by omega
      have hpl : (Dm.pad l).length = n := by rw [← hjj, List.length_append, List.length_replicate, hn]
      obtain ⟨m, hm⟩ : ∃ m, m = n / 64 := ⟨_, rfl⟩
      have hcl : (Dm.chunks (Dm.pad l)).length = m := by rw [Dm.chunks_length, hpl, hm]
      rw [hjj]
      have HPL := Lib.hid hpl
      have HM : Hid (n = 64 * m) := by show n = 64 * m; omega
      have hm1 : m ≤ 1048576 := by omega
      have HCL := Lib.hid hcl
      obtain ⟨P, hP⟩ : ∃ P, P = Dm.pad l := ⟨_, rfl⟩
      rw [← hP] at hsz ⊢
      have HP := Lib.hid hP
      clear hjj hn hlt hpl hm hcl hj hP
      go_wp2
      go_loopw [4] (fun i wr => ∃ I : Nat, I ≤ n ∧ i = .int .i64 (I : Int) ∧ Hid (∃ k r, I = 64 * k ∧ k ≤ m ∧ Rk wr r ⟨(Dm.chunks (Dm.pad l)).take k, [], -1, false⟩ ∧ r.p = w.heap.size ∧ (∀ j, r.fp j → w.heap.size ≤ j) ∧ Below w.heap.size w wr)) (fun i _ => n - (intOf i).toNat)
      case atStart =>
        refine ⟨0, Nat.zero_le _, rfl, Lib.hid ⟨0, _, rfl, Nat.zero_le _, made_empty w, rfl, ?_, (Below.refl _ _).alloc (Nat.le_refl _) _⟩⟩
        rintro j (hj | hj | hj)
        · show w.heap.size ≤ j; rw [hj]; exact Nat.le_refl _
        · cases hj
        · cases hj
      case round =>
        obtain ⟨I, hI, rfl, hrl⟩ := hrel
        obtain ⟨k, r, hIk, hkm, hr, hrp, hrf, hrb⟩ := hrl.out
        by_cases hlt : I < n
        · have hd : decide (I < n) = true := by simpa using hlt
          have hkm' : k < m := by have := HM.out; omega
          have hIn : I + 64 ≤ n := by have := HM.out; omega
          obtain ⟨c, hc⟩ : ∃ c, c = (P.drop (64 * k)).take 64 := ⟨_, rfl⟩
          have hlen : c.length = 64 := by
            rw [hc, List.length_take, List.length_drop, HP.out, HPL.out]; omega
          have hx : (Om.B P).extract I (I + 64) = Om.B c := by
            rw [extract_mid, hc, Nat.add_sub_cancel_left, hIk]
          have htake : (Dm.chunks (Dm.pad l)).take (k + 1) = (Dm.chunks (Dm.pad l)).take k ++ [c] := by
            rw [List.take_succ_eq_append_getElem (by rw [HCL.out]; exact hkm'), hc, HP.out]
            congr 2
            simp [Dm.chunks]
          have hSl : ((Dm.chunks (Dm.pad l)).take k).length = k := by rw [List.length_take, HCL.out]; omega
          obtain ⟨g1, _, _, _, hf⟩ := hr.reads
          obtain ⟨pa, pc, hpv⟩ := own_slice hr.stands
          rw [hpv] at g1
          have hpend := hr.stands
          rw [hpv] at hpend
          have hlt1 := hr.lt r.p (.inl rfl)
          rw [hSl] at g1 hpend hpv
          have hal : Below wr.heap.size wr (wr.alloc (.cells #[.string (Om.B c)] 9)).drew := ((Below.refl _ _).alloc (Nat.le_refl _) _).drew
          have g1a : (wr.alloc (.cells #[.string (Om.B c)] 9)).cell? ⟨r.p, 0, none⟩ = some (.slice pa k pc) :=
            (World.cell?_of_block (w := wr) (a := ⟨r.p, 0, none⟩) (Below.heap_alloc _ _ _ hlt1)).trans g1
          have OWN : Hid ((wr.alloc (.cells #[.string (Om.B c)] 9)).drew.ownsRow 0 9 1 (.slice pa k pc) k (scells ((Dm.chunks (Dm.pad l)).take k))) :=
            own_same hpend fun j hj => hal.block j (hr.lt j (.inr (.inl (by rw [hpv]; exact hj))))
          have NEWS : Hid (∀ j u, ([.string (Om.B c)] : List Value)[j]? = some u → (wr.alloc (.cells #[.string (Om.B c)] 9)).drew.cell? ((⟨wr.heap.size, 0, none⟩ : Addr).add j) = some u) :=
            World.news_of_block (cs := #[.string (Om.B c)]) (show (wr.alloc _).heap[wr.heap.size]? = _ from heap_alloc_new _ _)
          have ONE : Hid (∀ u ∈ ([.string (Om.B c)] : List Value), u.oneCell' = true) := by
            intro u hu
            rw [List.mem_singleton.1 hu]; rfl
          rw [hrp] at g1 g1a
          have hki2 : IntKind.i64.wrap ((I : Int) + 64) = (I : Int) + 64 := by rw [IntWalk.i64_in _ (by omega)]
          have b1 : (0 : Int) ≤ (I : Int) + 64 := by omega
          have b2 : (I : Int) + 64 ≤ (n : Int) := by omega
          have b3 : (I : Int) ≤ (I : Int) + 64 := by omega
          have b5 : ((I : Int) + 64).toNat = I + 64 := by omega
          have HR := Lib.hid hr
          have HRP := Lib.hid hrp
          have HRF := Lib.hid hrf
          have HRB := Lib.hid hrb
          have HPV := Lib.hid hpv
          have HSL := Lib.hid hSl
          have HT := Lib.hid htake
          have HL := Lib.hid hlen
          have HIK := Lib.hid hIk
          clear hr hrp hrf hrb hpv hSl htake hlen hIk hc hpend hal hf hrl
          go_wp2
          go_region_law (refine step_append_lies _ rfl (.tmp 23) (.tmp 29) 85 rfl 0 9 i0 _ 1 16 Try.underlying85 hi hz0 hz1 hz2 rfl (by decide) (.slice pa k pc) k (scells ((Dm.chunks (Dm.pad l)).take k)) (by simp [Act.eval]) OWN.out ⟨wr.heap.size, 0, none⟩ 1 1 [.string (Om.B c)] (by simp [Act.eval]) rfl NEWS.out ONE.out (by omega) (by unfold maxLen; omega) (by omega) (Nat.zero_le _) (wr.heap.size + 1) (by simp) ?_; intro g cap w2 hown2 hg2 hat2 hlt2; have APP := Lib.hid (SApp.of (st := ⟨(Dm.chunks (Dm.pad l)).take k, [], -1, false⟩) HPV.out HSL.out.symm hown2 hg2 hat2); have hh := APP.out.head HR.out; rw [HRP.out] at hh; have c4 : w2.cell? ⟨w.heap.size, 0, none⟩ = some r.sv := (by rw [cell_of_row _ _ _ _ _ _ hh]; rfl); have f4 : w2.frozen? ⟨w.heap.size, 0, none⟩ = false := frozen_of_row _ _ _ _ _ hh; clear hh hown2 hg2 hat2 hlt2)
          all_goals
            go_wp2
            go_roundw
            case rel =>
              have hdn := APP.out.done HR.out HL.out (by show ((Dm.chunks (Dm.pad l)).take k).length + 1 ≤ _; rw [HSL.out]; omega)
              have hst := hdn.2
              have h1 := hdn.1
              rw [HRP.out] at h1 hst
              refine ⟨I + 64, by omega, by go_num, Lib.hid ⟨k + 1, ⟨w.heap.size, .slice (some ⟨g, 0, none⟩) (k + 1) cap, r.pv⟩, by have := HIK.out; omega, hkm', ?_, rfl, fun j hj => ?_, HRB.out.trans (hst.fr.below (by exact HRB.out.size) HRF.out)⟩⟩
              · rw [HT.out]; exact h1
              · rcases hst.fp j hj with e | e
                · exact HRF.out j e
                · exact Nat.le_trans HRB.out.size e
            case measure => simp [intOf]; omega
        · obtain rfl : I = n := by omega
          have hd : decide (I < I) = false := by simp
          have HR := Lib.hid hr
          have HRP := Lib.hid hrp
          have HRF := Lib.hid hrf
          have HRB := Lib.hid hrb
          have HIK := Lib.hid hIk
          clear hr hrp hrf hrb hIk hrl
          go_wp2
          go_ret
          refine ⟨r, by rw [HRP.out]; rfl, ?_, HRF.out, HRB.out⟩
          have h1 := HR.out
          have : k = m := by have := HIK.out; have := HM.out; omega
          rw [this, List.take_of_length_le (by rw [HCL.out]; omega)] at h1
          exact h1
    · obtain ⟨n, hn⟩ : ∃ n, n = l.length + j := ⟨_, rfl⟩
      rw [← hn] at hsz hlt
      have hmod : ((n : Int) % 64 != 0) = true := by simp; omega
      have hnb : n ≤ 67108928 := by omega
      have happ : Om.B (l ++ List.replicate j 0) ++ ⟨#[0]⟩ = Om.B (l ++ List.replicate (j + 1) 0) := by
        rw [List.replicate_succ', ← List.append_assoc]; exact Om.B_append _ [0]
      have hov : ¬ 9223372036854775807 < n + 1 := by omega
      have HN := Lib.hid hn
      have HLT := Lib.hid hlt
      have HSZ := Lib.hid hsz
      clear hn hlt
      go_wp2
      go_round
      case rel => exact ⟨j + 1, by have := HN.out; have := HLT.out; omega, rfl⟩
      case measure =>
        show 67108928 - (Om.B (l ++ List.replicate (j + 1) 0)).size < 67108928 - (Om.B (l ++ List.replicate j 0)).size
        rw [Om.B_size, Om.B_size, List.length_append, List.length_append, List.length_replicate, List.length_replicate]
        have := HN.out
        omega
end Dsk
end Go.Proofs.Ytbmabcddciibfaa