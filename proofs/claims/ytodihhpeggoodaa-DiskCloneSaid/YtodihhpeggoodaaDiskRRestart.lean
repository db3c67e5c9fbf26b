/- Contracts of the document's disk: Restart, Load, New(0). -/
import Derived.Test.YtodihhpeggoodaaDiskRFlush
namespace Go.Proofs.Ytodihhpeggoodaa
namespace Dsk
open Go.RowKit
set_option linter.unusedVariables false

/-- The last stores of Restart. -/
theorem Rk.restarted {w : World} {r : Ro} {st : Dm.St} (h : Rk w r st) :
    Rk (((w.setCell ⟨r.p, 1, none⟩ (.slice none 0 0)).setCell ⟨r.p, 2, none⟩ (.int .i64 (-1))).setCell ⟨r.p, 3, none⟩ (.bool false)) { r with pv := .slice none 0 0 } ⟨st.S, [], -1, false⟩ ∧
    RStep r { r with pv := .slice none 0 0 } w (((w.setCell ⟨r.p, 1, none⟩ (.slice none 0 0)).setCell ⟨r.p, 2, none⟩ (.int .i64 (-1))).setCell ⟨r.p, 3, none⟩ (.bool false)) := by
  have h1 := h.setNone
  have h2 := h1.setFuse (-1) (by decide) (by decide)
  have h3 := h2.setDead false
  refine ⟨h3, ?_⟩
  refine (rstep_head r { r with pv := .slice none 0 0 } w 1 _ ?_ rfl).trans ((rstep_head { r with pv := .slice none 0 0 } { r with pv := .slice none 0 0 } _ 2 _ (fun _ h => h) rfl).trans (rstep_head { r with pv := .slice none 0 0 } { r with pv := .slice none 0 0 } _ 3 _ (fun _ h => h) rfl))
  rintro j (hj | hj | hj)
  · exact .inl hj
  · exact .inr (.inl hj)
  · cases hj

set_option maxHeartbeats 1000000 in
theorem rrestart_any {w : World} {r : Ro} {st : Dm.St} (h : Rk w r st) (hP : st.P.length ≤ 1099511627776) (ks : List Bool) (ka : Option Addr) (kc : Nat) (hks : ks.length ≤ 140737488355328) (hk : Kept w r.fp ka ks) :
    Calls Try.prog 28 #[.pointer (some ⟨r.p, 0, none⟩), .slice ka ks.length kc] w fun e w' => e = .returned (.tuple #[]) ∧ RWent r (Dm.restart st ks) w w' := by
  obtain ⟨sa, sc, hsv⟩ := own_slice h.stands
  obtain ⟨pa, pc, hpv⟩ := own_slice h.pend
  have hfew := h.ok.few
  obtain ⟨n, hn⟩ : ∃ n, n = st.P.length := ⟨_, rfl⟩
  obtain ⟨q, hq⟩ : ∃ q, q = st.S.length := ⟨_, rfl⟩
  obtain ⟨m, hm⟩ : ∃ m, m = ks.length := ⟨_, rfl⟩
  rw [← hn] at hpv hP
  rw [← hq] at hsv hfew
  rw [← hm] at hks ⊢
  have HD1 := Lib.hid h
  have HSV := Lib.hid hsv
  have HPV := Lib.hid hpv
  have HN := Lib.hid hn
  have HQ := Lib.hid hq
  have HM := Lib.hid hm
  have HK := Lib.hid hk
  clear h hpv hsv hn hm hk hq
  go_enter Try.func28, Try.ntmps28
  go_wp2
  go_loopw [4] (fun i wr => ∃ k : Nat, k ≤ n ∧ i = .int .i64 k ∧ Hid (RSet r st ks k w wr)) (fun i _ => n - (intOf i).toNat)
  case atStart => exact ⟨0, Nat.zero_le _, rfl, Lib.hid ⟨HD1.out, RStep.refl _ _⟩⟩
  case round =>
    obtain ⟨k, hk, rfl, hset⟩ := hrel
    obtain ⟨g0, g1, g2, g3, hf⟩ := hset.out.dk.reads
    rw [HSV.out] at g0
    rw [HPV.out] at g1
    by_cases hlt : k < n ∧ k < m
    · obtain ⟨hlt, hkm⟩ := hlt
      have hd : decide (k < n) = true := by simpa using hlt
      have hdm : decide (k < m) = true := by simpa using hkm
      have hkk : k < st.P.length := by rw [← HN.out]; exact hlt
      obtain ⟨g, rfl, c1, c2⟩ := hset.out.dk.pair HPV.out (k := k) hkk
      have hw := HD1.out.ok.writes _ (List.getElem_mem hkk)
      have hstep := settle_take (S := st.S) hkk ks
      obtain ⟨x, hx⟩ : ∃ x, x = st.P[k] := ⟨_, rfl⟩
      have c1' : wr.cell? ⟨g, k * 2, none⟩ = some (.int .i64 (x.1 : Int)) := by rw [hx]; exact c1
      have c2' : wr.cell? ⟨g, k * 2 + 1, none⟩ = some (.string (Om.B x.2)) := by rw [hx]; exact c2
      rw [← hx] at hstep hw
      have hxm : x.1 < q := by rw [HQ.out]; exact hw.1
      obtain ⟨gs, rfl, _, c3, f3⟩ := hset.out.dk.at HSV.out (k := x.1) (by show x.1 < (Dm.settle _ _ _).length; rw [Dm.settle_length]; exact hw.1)
      obtain ⟨old, hold⟩ : ∃ old, old = Value.string (Om.B (List.getD (Dm.settle st.S (st.P.take k) ks) x.1 [])) := ⟨_, rfl⟩
      have c3' : wr.cell? ⟨gs, x.1, none⟩ = some old := by rw [hold]; exact c3
      obtain ⟨kb, koff, rfl, hkF, hkb, hcell⟩ := (HK.out.fr hset.out.step.fr (fun _ _ h => h)) (by rw [← HM.out]; omega)
      have hc := hcell k (by rw [← HM.out]; exact hkm)
      have HX2 := Lib.hid hw.2
      clear c1 c2 c3 hw hx hold hf hcell hkF g2 g3
      cases hval : ks.getD k false with
      | true =>
        rw [hval] at hc
        rw [hval, if_pos rfl] at hstep
        have HSTEP := Lib.hid hstep
        clear hstep hval
        go_wp2
        refine still_tail 21 (by kernel_rfl) (by kernel_rfl) ?_
        intro w2 hw2
        have d0 : w2.cell? ⟨r.p, 0, none⟩ = some (.slice (some ⟨gs, 0, none⟩) q sc) := by rw [hw2.out]; exact g0
        have d1 : w2.cell? ⟨r.p, 1, none⟩ = some (.slice (some ⟨g, 0, none⟩) n pc) := by rw [hw2.out]; exact g1
        have d2 : w2.cell? ⟨g, k * 2, none⟩ = some (.int .i64 (x.1 : Int)) := by rw [hw2.out]; exact c1'
        have d3 : w2.cell? ⟨g, k * 2 + 1, none⟩ = some (.string (Om.B x.2)) := by rw [hw2.out]; exact c2'
        have d4 : w2.cell? ⟨gs, x.1, none⟩ = some old := by rw [hw2.out]; exact c3'
        have d5 : w2.frozen? ⟨gs, x.1, none⟩ = false := by rw [hw2.out]; exact f3
        clear g0 g1 c1' c2' c3' f3 hc
        simp only [List.take_succ_cons, List.take_zero, List.drop_succ_cons, List.drop_zero]
        repeat still_step
        refine wpStill_nil ?_
        go_wp2
        go_roundw
        case rel =>
          have hbel : Below wr.heap.size wr w2 := by rw [hw2.out]; exact (Below.refl _ _).drew
          have hst := (hset.out.dk.below hbel).setStands HSV.out x.1 x.2 HX2.out
          refine ⟨k + 1, by omega, by go_num, Lib.hid ⟨?_, hset.out.step.trans ((RStep.of_below hbel).trans hst.2)⟩⟩
          rw [HSTEP.out]
          exact hst.1
        case measure => simp [intOf]; omega
      | false =>
        rw [hval] at hc
        rw [hval, if_neg (by decide)] at hstep
        have HSTEP := Lib.hid hstep
        clear hstep hval
        go_wp2
        go_roundw
        case rel =>
          refine ⟨k + 1, by omega, by go_num, Lib.hid ⟨?_, hset.out.step⟩⟩
          rw [HSTEP.out]
          exact hset.out.dk
        case measure => simp [intOf]; omega
    · have hf1 := hf 1
      have hf2 := hf 2
      have hf3 := hf 3
      have hres := hset.out.dk.restarted
      have hend : Dm.settle st.S (st.P.take k) ks = Dm.settle st.S st.P ks := by
        by_cases h1 : k < n
        · have h2 : ks.length ≤ k := by rw [← HM.out]; omega
          have := settle_over (S := st.S) (P := st.P) h2 st.P.length (by rw [← HN.out]; omega) (Nat.le_refl _)
          rw [List.take_length] at this
          exact this.symm
        · obtain rfl : k = n := by omega
          rw [HN.out, List.take_length]
      have hres' : RWent r (Dm.restart st ks) w (((wr.setCell ⟨r.p, 1, none⟩ (.slice none 0 0)).setCell ⟨r.p, 2, none⟩ (.int .i64 (-1))).setCell ⟨r.p, 3, none⟩ (.bool false)) := by
        refine ⟨_, ?_, hset.out.step.trans hres.2⟩
        have h4 := hres.1
        rw [hend] at h4
        exact h4
      have HRES := Lib.hid hres'
      clear hres' hres hend hf
      by_cases h1 : k < n
      · have hd : decide (k < n) = true := by simpa using h1
        have hdm : decide (k < m) = false := by simp; omega
        go_wp2
        go_end0
        exact ⟨rfl, HRES.out⟩
      · have hd : decide (k < n) = false := by simpa using h1
        go_wp2
        go_end0
        exact ⟨rfl, HRES.out⟩
end Dsk
end Go.Proofs.Ytodihhpeggoodaa
