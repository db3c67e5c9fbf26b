/- Contracts of the document's disk: Write, Flush, Restart, of all cases. -/
import Derived.Test.YtodihhpeggoodaaDiskRWrite
namespace Go.Proofs.Ytodihhpeggoodaa
namespace Dsk
open Go.RowKit
set_option linter.unusedVariables false

theorem rwrite_any {w : World} {r : Ro} {st : Dm.St} (h : Rk w r st) (a : Int) (l : List UInt8) (ha : a ≤ 9223372036854775807) (hl : l.length ≤ 140737488355328) (hP : st.P.length ≤ 549755813888) :
    Calls Try.prog 26 #[.pointer (some ⟨r.p, 0, none⟩), .int .i64 a, .string (Om.B l)] w fun e w' => e = .returned (.int .i64 (Dm.write st a l).2) ∧ RWent r (Dm.write st a l).1 w w' := by
  by_cases hno : st.dead = true ∨ l.length % 64 ≠ 0 ∨ Dm.thereB st a (l.length / 64 : Nat) = false
  · refine (rwrite_no h a l ha hl hno).mono ?_
    rintro e w' ⟨he, rfl⟩
    exact ⟨he, by rw [write_no_st hno]; exact RWent.refl h⟩
  · have h1 : st.dead = false := by cases hd : st.dead with | true => exact absurd (.inl hd) hno | false => rfl
    have h2 : l.length % 64 = 0 := Classical.byContradiction fun c => hno (.inr (.inl c))
    have h3 : Dm.thereB st a (l.length / 64 : Nat) = true := by
      cases hd : Dm.thereB st a (l.length / 64 : Nat) with
      | true => rfl
      | false => exact absurd (.inr (.inr hd)) hno
    obtain ⟨c1, c2, c3⟩ := (Dm.there_iff _ _ _).1 h3
    obtain ⟨b, rfl⟩ : ∃ b : Nat, a = (b : Int) := ⟨a.toNat, by omega⟩
    have e1 : Dm.write st (b : Int) l = Dm.puts st b (Dm.chunks l) := by
      unfold Dm.write
      rw [if_neg (by rw [h1]; decide), if_pos h2, if_pos h3, Int.toNat_natCast]
    rw [e1]
    exact rwrite_yes h b l h1 h2 (by omega) hP

theorem Rk.setStands {w : World} {r : Ro} {st : Dm.St} (h : Rk w r st) {g n cap : Nat} (hv : r.sv = .slice (some ⟨g, 0, none⟩) n cap) (k : Nat) (l : List UInt8) (hl : l.length = 64) :
    Rk (w.setCell ⟨g, k, none⟩ (.string (Om.B l))) r { st with S := st.S.set k l } ∧ RStep r r w (w.setCell ⟨g, k, none⟩ (.string (Om.B l))) := by
  obtain ⟨a1, a2, a3⟩ := h.apart
  have hg : r.sv.ownBlock = some g := by rw [hv]; rfl
  have hown := h.stands
  obtain ⟨pa, pc, hv2⟩ := own_slice hown
  have hn : n = st.S.length := by rw [hv] at hv2; injection hv2
  rw [hv, hn] at hown
  have hst := (hown.stored k (.string (Om.B l))).1
  refine ⟨⟨⟨?_, fun x hx => by rw [List.length_set]; exact h.ok.writes x hx, h.ok.fuse, by rw [List.length_set]; exact h.ok.few⟩, ?_, ?_, ?_, h.high⟩, ⟨(Fr.refl _ _).setCell _ (.inr (.inl hg)) _, fun _ h => .inl h, rfl⟩⟩
  · intro x hx
    rcases List.mem_or_eq_of_mem_set hx with h1 | h1
    · exact h.ok.sectors x h1
    · rw [h1]; exact hl
  · rw [Below.heap_setCell _ _ _ _ (Ne.symm (a1 g hg))]; exact h.head
  · show World.ownsRow _ _ _ _ r.sv (st.S.set k l).length (scells (st.S.set k l))
    rw [List.length_set, scells_set, hv, hn]
    exact hst
  · exact own_same h.pend fun j hj => Below.heap_setCell _ _ _ _ (fun e => a3 g hg (by have e : j = g := e; rw [← e]; exact hj))

structure RSet (r : Ro) (st : Dm.St) (keep : List Bool) (k : Nat) (w wr : World) : Prop where
  dk : Rk wr r { st with S := Dm.settle st.S (st.P.take k) keep }
  step : RStep r r w wr
theorem settle_over {S : List (List UInt8)} {P : List (Nat × List UInt8)} {keep : List Bool} {k : Nat} (h : keep.length ≤ k) : ∀ j, k ≤ j → j ≤ P.length → Dm.settle S (P.take j) keep = Dm.settle S (P.take k) keep := by
  intro j
  induction j with
  | zero => intro h1 _; obtain rfl : k = 0 := by omega
            rfl
  | succ j ih =>
    intro h1 h2
    by_cases e : k = j + 1
    · rw [e]
    · rw [settle_take (by omega), ← ih (by omega) (by omega)]
      rw [show keep.getD j false = false from by rw [List.getD_eq_getElem?_getD, List.getElem?_eq_none (by omega)]; rfl]
      rfl

theorem rflush_no {w : World} {r : Ro} {st : Dm.St} (h : Rk w r st) (hno : Dm.spendB st = false) :
    Calls Try.prog 27 #[.pointer (some ⟨r.p, 0, none⟩)] w fun e w' => e = .returned (.int .i64 (Dm.flush st).2) ∧ RWent r (Dm.flush st).1 w w' := by
  have e1 : Dm.flush st = (Dm.spendS st, 41) := by unfold Dm.flush; rw [if_neg (by rw [hno]; decide)]
  rw [e1]
  obtain ⟨_, _, _, h3, _⟩ := h.reads
  cases hdead : st.dead with
  | true =>
    rw [hdead] at h3
    have hw : RWent r (Dm.spendS st) w w := by
      have : Dm.spendS st = st := by
        unfold Dm.spendS
        split
        · cases st; simp_all
        · rfl
      rw [this]
      exact RWent.refl h
    have HW := Lib.hid hw
    clear hw hno e1 h hdead
    go_enter Try.func27, Try.ntmps27
    go_wp2
    go_ret
    exact ⟨rfl, HW.out⟩
  | false =>
    rw [hdead] at h3
    have hsp := thing_any h hdead
    rw [hno] at hsp
    have HSP := Lib.hid hsp
    clear hsp hno e1 h hdead
    go_enter Try.func27, Try.ntmps27
    go_wp2_with (go_at_call 40; refine HSP.out.mono ?_; rintro e w' ⟨rfl, hw1, hw2⟩; have HW1 := Lib.hid hw1; have HW2 := Lib.hid hw2; clear hw1 hw2)
    go_ret
    exact ⟨rfl, _, HW1.out, HW2.out⟩

set_option maxHeartbeats 1000000 in
theorem rflush_yes {w : World} {r : Ro} {st : Dm.St} (h : Rk w r st) (hyes : Dm.spendB st = true) (hP : st.P.length ≤ 1099511627776) :
    Calls Try.prog 27 #[.pointer (some ⟨r.p, 0, none⟩)] w fun e w' => e = .returned (.int .i64 (Dm.flush st).2) ∧ RWent r (Dm.flush st).1 w w' := by
  have e1 : Dm.flush st = (⟨Dm.settle st.S st.P (Dm.all st.P), [], (Dm.spendS st).fuse, (Dm.spendS st).dead⟩, 0) := by unfold Dm.flush; rw [if_pos hyes]
  rw [e1]
  have hdead : st.dead = false := by unfold Dm.spendB at hyes; simp at hyes; exact hyes.2
  obtain ⟨_, _, _, h3, _⟩ := h.reads
  rw [hdead] at h3
  have hsp := thing_any h hdead
  rw [hyes] at hsp
  have hSS := Dm.spendS_S st
  have hPP := Dm.spendS_P st
  obtain ⟨st1, hst1⟩ : ∃ s, s = Dm.spendS st := ⟨_, rfl⟩
  rw [← hst1] at hsp hSS hPP ⊢
  rw [← hSS, ← hPP]
  rw [← hPP] at hP
  have HSP := Lib.hid hsp
  clear hsp hyes e1 h hSS hPP hst1 hdead
  go_enter Try.func27, Try.ntmps27
  go_wp2_with fail
  refine HSP.out.mono ?_
  rintro e w1 ⟨rfl, hd1, hs1⟩
  obtain ⟨sa, sc, hsv⟩ := own_slice hd1.stands
  obtain ⟨pa, pc, hpv⟩ := own_slice hd1.pend
  have hfew := hd1.ok.few
  obtain ⟨n, hn⟩ : ∃ n, n = st1.P.length := ⟨_, rfl⟩
  obtain ⟨m, hm⟩ : ∃ m, m = st1.S.length := ⟨_, rfl⟩
  rw [← hn] at hpv hP
  rw [← hm] at hsv hfew
  have HD1 := Lib.hid hd1
  have HS1 := Lib.hid hs1
  have HSV := Lib.hid hsv
  have HPV := Lib.hid hpv
  have HN := Lib.hid hn
  have HM := Lib.hid hm
  clear HSP hd1 hs1 hpv hsv hn hm
  go_wp2
  go_loopw [4] (fun i wr => ∃ k : Nat, k ≤ n ∧ i = .int .i64 k ∧ Hid (RSet r st1 (Dm.all st1.P) k w1 wr)) (fun i _ => n - (intOf i).toNat)
  case atStart => exact ⟨0, Nat.zero_le _, rfl, Lib.hid ⟨HD1.out, RStep.refl _ _⟩⟩
  case round =>
    obtain ⟨k, hk, rfl, hset⟩ := hrel
    clear h3
    obtain ⟨g0, g1, _, _, hf⟩ := hset.out.dk.reads
    rw [HSV.out] at g0
    rw [HPV.out] at g1
    have hf1 := hf 1
    by_cases hlt : k < n
    · have hd : decide (k < n) = true := by simpa using hlt
      have hkk : k < st1.P.length := by rw [← HN.out]; exact hlt
      obtain ⟨g, rfl, c1, c2⟩ := hset.out.dk.pair HPV.out (k := k) hkk
      have hw := HD1.out.ok.writes _ (List.getElem_mem hkk)
      have hstep := settle_take (S := st1.S) hkk (Dm.all st1.P)
      rw [all_get hkk, if_pos rfl] at hstep
      obtain ⟨x, hx⟩ : ∃ x, x = st1.P[k] := ⟨_, rfl⟩
      have c1' : wr.cell? ⟨g, k * 2, none⟩ = some (.int .i64 (x.1 : Int)) := by rw [hx]; exact c1
      have c2' : wr.cell? ⟨g, k * 2 + 1, none⟩ = some (.string (Om.B x.2)) := by rw [hx]; exact c2
      rw [← hx] at hstep hw
      have hxm : x.1 < m := by rw [HM.out]; exact hw.1
      obtain ⟨gs, rfl, _, c3, f3⟩ := hset.out.dk.at HSV.out (k := x.1) (by show x.1 < (Dm.settle _ _ _).length; rw [Dm.settle_length]; exact hw.1)
      obtain ⟨old, hold⟩ : ∃ old, old = Value.string (Om.B (List.getD (Dm.settle st1.S (st1.P.take k) (Dm.all st1.P)) x.1 [])) := ⟨_, rfl⟩
      have c3' : wr.cell? ⟨gs, x.1, none⟩ = some old := by rw [hold]; exact c3
      have HX2 := Lib.hid hw.2
      have HSTEP := Lib.hid hstep
      clear c1 c2 c3 hstep hw hx hold hf
      go_wp2
      refine still_tail 21 (by kernel_rfl) (by kernel_rfl) ?_
      intro w2 hw2
      have d0 : w2.cell? ⟨r.p, 0, none⟩ = some (.slice (some ⟨gs, 0, none⟩) m sc) := by rw [hw2.out]; exact g0
      have d1 : w2.cell? ⟨r.p, 1, none⟩ = some (.slice (some ⟨g, 0, none⟩) n pc) := by rw [hw2.out]; exact g1
      have d2 : w2.cell? ⟨g, k * 2, none⟩ = some (.int .i64 (x.1 : Int)) := by rw [hw2.out]; exact c1'
      have d3 : w2.cell? ⟨g, k * 2 + 1, none⟩ = some (.string (Om.B x.2)) := by rw [hw2.out]; exact c2'
      have d4 : w2.cell? ⟨gs, x.1, none⟩ = some old := by rw [hw2.out]; exact c3'
      have d5 : w2.frozen? ⟨gs, x.1, none⟩ = false := by rw [hw2.out]; exact f3
      clear g0 g1 c1' c2' c3' f3 hf1
      simp only [List.take_succ_cons, List.take_zero, List.drop_succ_cons, List.drop_zero]
      repeat still_step
      refine wpStill_nil ?_
      go_wp2
      go_roundw
      case rel =>
        have hbel : Below wr.heap.size wr w2 := by rw [hw2.out]; exact (Below.refl _ _).drew
        have hst := (hset.out.dk.below hbel).setStands HSV.out x.1 x.2 HX2.out
        refine ⟨k + 1, by omega, by go_num, Lib.hid ⟨?_, hset.out.step.trans ((RStep.of_below hbel).trans hst.2)⟩⟩
        rw [HSTEP.out]
        exact hst.1
      case measure => simp [intOf]; omega
    · obtain rfl : k = n := by omega
      have hd : decide (k < k) = false := by simp
      clear hf
      go_wp2
      go_ret
      refine ⟨rfl, _, ?_, HS1.out.trans (hset.out.step.trans (rstep_head r { r with pv := .slice none 0 0 } wr 1 _ ?_ rfl))⟩
      · have := hset.out.dk.setNone
        rw [HN.out, List.take_length] at this
        exact this
      · rintro j (hj | hj | hj)
        · exact .inl hj
        · exact .inr (.inl hj)
        · cases hj
theorem rflush_any {w : World} {r : Ro} {st : Dm.St} (h : Rk w r st) (hP : st.P.length ≤ 1099511627776) :
    Calls Try.prog 27 #[.pointer (some ⟨r.p, 0, none⟩)] w fun e w' => e = .returned (.int .i64 (Dm.flush st).2) ∧ RWent r (Dm.flush st).1 w w' := by
  cases hb : Dm.spendB st with
  | true => exact rflush_yes h hb hP
  | false => exact rflush_no h hb
end Dsk
end Go.Proofs.Ytodihhpeggoodaa
