/- The walk of DiskPlays. -/
import Derived.Test.YtodihhpeggoodaaDiskFits
import Derived.Deep.QuietTactic
import Derived.BigQuiet
namespace Go.Proofs.Ytodihhpeggoodaa
namespace Dsk
open Go.RowKit
set_option linter.unusedVariables false

theorem Fr.of_low {w w' : World} (h : Below w.heap.size w w') : Fr (fun k => w.heap.size ≤ k) w w' := ⟨h.os, h.tape, h.output, h.size, fun k hk _ => h.block k hk⟩
theorem step_P {x : Ac} {st : Dm.St} (h : Dm.Ok st) (hd : x.d.length ≤ 1000) : (x.step st).P.length ≤ st.P.length + 15 := by
  unfold Ac.step
  split
  · omega
  · have := (Dm.write_ok h x.a x.d).2.2; omega
  · unfold Dm.flush; split
    · simp
    · rw [Dm.spendS_P]; omega
  · show st.P.length ≤ _; omega
  · simp [Dm.restart]

/-- In the midst of the acts: both disks, side by side, in new memory. -/
structure Play (w wr : World) (p q : Nat) (k : Nat) (o : Ob) (r : Ro) (st : Dm.St) : Prop where
  dk : Dk wr o st
  rk : Rk wr r st
  dj : ∀ k, o.fp k → ¬ r.fp k
  ofp : ∀ k, o.fp k → w.heap.size ≤ k
  rfp : ∀ k, r.fp k → w.heap.size ≤ k
  bel : Below w.heap.size w wr
  op : o.p = p
  rp : r.p = q
  P : st.P.length ≤ 15 * k
theorem Play.step {w wr w2 : World} {p q k : Nat} {o o' : Ob} {r r' : Ro} {st st' : Dm.St} (h : Play w wr p q k o r st) (t : Two o r o' r' st' st' wr w2) (hP : st'.P.length ≤ 15 * (k + 1)) : Play w w2 p q (k + 1) o' r' st' := by
  refine ⟨t.dk, t.rk, t.dj, fun j hj => ?_, fun j hj => ?_, ?_, t.op.trans h.op, t.rp.trans h.rp, hP⟩
  · rcases t.ofp j hj with e | e
    · exact h.ofp j e
    · exact Nat.le_trans h.bel.size e
  · rcases t.rfp j hj with e | e
    · exact h.rfp j e
    · exact Nat.le_trans h.bel.size e
  · exact h.bel.trans (t.fr.below h.bel.size fun j hj => hj.elim (h.ofp j) (h.rfp j))

theorem quiet_same {f : FuncId} {args : Array Value} {w : World} {n : Nat} {v : Value} (h : Calls Try.prog f args (w.drewN n) fun e w' => e = .returned v ∧ w.drewN n = w') : Calls Try.prog f args (w.drewN n) fun e w'' => e = .returned v ∧ ∃ m, w'' = w.drewN m :=
  h.mono fun _ _ ⟨he, hm⟩ => ⟨he, n, hm.symm⟩
theorem Dk.drewN {w : World} {o : Ob} {st : Dm.St} (h : Dk w o st) (n : Nat) : Dk (w.drewN n) o st := h.same fun _ _ => rfl
theorem Rk.drewN {w : World} {r : Ro} {st : Dm.St} (h : Rk w r st) (n : Nat) : Rk (w.drewN n) r st := h.same fun _ _ => rfl
theorem Play.drewN {w wr : World} {p q k : Nat} {o : Ob} {r : Ro} {st : Dm.St} (h : Play w wr p q k o r st) (n : Nat) : Play w (wr.drewN n) p q k o r st :=
  ⟨h.dk.drewN n, h.rk.drewN n, h.dj, h.ofp, h.rfp, ⟨h.bel.os, h.bel.tape, h.bel.output, h.bel.size, h.bel.block⟩, h.op, h.rp, h.P⟩
theorem plays_no {w : World} {a : Option Addr} {xs : List Ac} {c : Nat} (l : List UInt8) (hl : l.length ≤ 9223372036854775807) (hn : xs.length ≤ 9223372036854775807) (h : Acts w a xs) (hno : fitB xs = false ∨ 2560 < l.length) :
    Calls Try.prog 3 #[.string (Om.B l), .slice a xs.length c] w fun e w' => e = .returned (.bool true) ∧ Below w.heap.size w w' := by
  have hf := fits_any (c := c) hn h
  have hs := Om.B_size l
  obtain ⟨m, hm⟩ : ∃ m, m = xs.length := ⟨_, rfl⟩
  obtain ⟨n, hln⟩ : ∃ n, n = l.length := ⟨_, rfl⟩
  rw [← hm] at hf hn ⊢
  rw [← hln] at hs
  have C0 : Hid (∀ w1, Calls Try.prog 7 #[.string (Om.B l)] w1 fun e w' => ∃ q, e = .returned (.pointer q) ∧ Below w1.heap.size w1 w') := fun w1 => by
    by_cases h1 : l.length ≤ 67108864
    · refine (load_any l w1 h1).mono ?_
      rintro e w' ⟨o, he, _, _, hb⟩
      exact ⟨_, he, hb⟩
    · refine (load_no l w1 hl (by omega)).mono ?_
      rintro e w' ⟨he, rfl⟩
      exact ⟨_, he, Below.refl _ _⟩
  have AL := Lib.hid alive_any
  have HF := Lib.hid hf
  cases hfit : fitB xs with
  | false =>
    rw [hfit] at HF
    clear hf h hno hm hfit
    go_enter Try.func3, Try.ntmps3
    go_wp2_with fail
    refine HF.out.mono ?_
    rintro e w1 ⟨rfl, rfl⟩
    go_wp2_with fail
    refine (C0.out _).mono ?_
    rintro e w1 ⟨q, rfl, hb⟩
    have HB := Lib.hid hb
    clear hb
    go_wp2_with fail
    refine (AL.out _).mono ?_
    rintro e w2 ⟨rfl, hb2⟩
    have HB2 := Lib.hid hb2
    clear hb2
    go_wp2
    go_ret
    exact ⟨rfl, HB.out.trans (HB2.out.mono HB.out.size)⟩
  | true =>
    rw [hfit] at HF
    have hbig : 2560 < n := by
      rcases hno with e | e
      · rw [hfit] at e; cases e
      · omega
    have hd : decide (2560 < (n : Int)) = true := by simp; omega
    clear hf h hno hm hfit hln
    go_enter Try.func3, Try.ntmps3
    go_wp2_with fail
    refine HF.out.mono ?_
    rintro e w1 ⟨rfl, rfl⟩
    go_wp2_with fail
    refine (C0.out _).mono ?_
    rintro e w1 ⟨q, rfl, hb⟩
    have HB := Lib.hid hb
    clear hb
    go_wp2_with fail
    refine (AL.out _).mono ?_
    rintro e w2 ⟨rfl, hb2⟩
    have HB2 := Lib.hid hb2
    clear hb2
    go_wp2
    go_ret
    exact ⟨rfl, HB.out.trans (HB2.out.mono HB.out.size)⟩

set_option maxRecDepth 100000 in
set_option maxHeartbeats 2000000 in
theorem plays_yes {w : World} {a : Option Addr} {xs : List Ac} {c : Nat} (l : List UInt8) (hl : l.length ≤ 2560) (hn : xs.length ≤ 9223372036854775807) (h : Acts w a xs) (hfit : fitB xs = true) :
    Calls Try.prog 3 #[.string (Om.B l), .slice a xs.length c] w fun e w' => e = .returned (.bool true) ∧ Below w.heap.size w w' := by
  have hf := fits_any (c := c) hn h
  have hs := Om.B_size l
  obtain ⟨h60, hsmall⟩ := fit_true hfit
  obtain ⟨m, hm⟩ : ∃ m, m = xs.length := ⟨_, rfl⟩
  obtain ⟨n, hln⟩ : ∃ n, n = l.length := ⟨_, rfl⟩
  rw [← hm] at hf hn h60 ⊢
  rw [← hln] at hs
  rw [hfit] at hf
  have hd : decide (2560 < (n : Int)) = false := by simp; omega
  have C0 : Hid (∀ w1, Calls Try.prog 7 #[.string (Om.B l)] w1 fun e w' => Made (Dm.load l) w1.heap.size w1 e w') := fun w1 => load_any l w1 (by omega)
  have C1 : Hid (∀ w1, Calls Try.prog 9 #[.string (Om.B l)] w1 fun e w' => RMade (Dm.load l) w1.heap.size w1 e w') := fun w1 => rload_any l w1 (by omega)
  have AL := Lib.hid alive_any
  have HF := Lib.hid hf
  have HA := Lib.hid h
  have HM := Lib.hid hm
  have HSM := Lib.hid hsmall
  clear hf h hm hfit hln hsmall
  go_enter Try.func3, Try.ntmps3
  go_wp2_with fail
  refine HF.out.mono ?_
  rintro e w1 ⟨rfl, rfl⟩
  go_wp2_with fail
  refine (C0.out _).mono ?_
  rintro e w1 ⟨o0, rfl, hd0, hf0, hb0⟩
  have D0 := Lib.hid hd0
  have F0 := Lib.hid hf0
  have B0 := Lib.hid hb0
  clear hd0 hf0 hb0 C0 HF
  go_wp2_with fail
  refine (C1.out _).mono ?_
  rintro e w2 ⟨r0, rfl, hr0, hg0, hb1⟩
  have PL : Hid (Play w w2 o0.p r0.p 0 o0 r0 (Dm.load l)) := ⟨D0.out.below hb1, hr0, fun k hk hc => by have := D0.out.lt k hk; have := hg0 k hc; omega, F0.out, fun k hk => Nat.le_trans B0.out.size (hg0 k hk), B0.out.trans (hb1.mono B0.out.size), rfl, rfl, Nat.zero_le _⟩
  clear hr0 hg0 hb1 D0 F0 B0 C1
  obtain ⟨p, hp⟩ : ∃ p, p = o0.p := ⟨_, rfl⟩
  obtain ⟨q, hq⟩ : ∃ q, q = r0.p := ⟨_, rfl⟩
  go_wp2
  go_loopw [8] (fun i wr => ∃ (k : Nat) (o : Ob) (r : Ro) (st : Dm.St), k ≤ m ∧ i = .int .i64 (k : Int) ∧ Hid (Play w wr o0.p r0.p k o r st)) (fun i _ => m - (intOf i).toNat)
  case atStart => exact ⟨0, o0, r0, _, Nat.zero_le _, rfl, PL⟩
  case round =>
    obtain ⟨k, o, r, st, hk, rfl, hpl⟩ := hrel
    clear PL hp hq
    by_cases hlt : k < m
    · have hd2 : decide (k < m) = true := by simpa using hlt
      have hkx : k < xs.length := by rw [← HM.out]; exact hlt
      obtain ⟨b, off, rfl, hb, hat⟩ := HA.out (by omega)
      have hx := hat k hkx
      have hsm := HSM.out k hkx
      obtain ⟨x, hxe⟩ : ∃ x, x = xs[k] := ⟨_, rfl⟩
      rw [← hxe] at hx hsm
      have keep : ∀ j, wr.cell? ⟨b, j, none⟩ = w.cell? ⟨b, j, none⟩ := fun j => hpl.out.bel.cell (p := ⟨b, j, none⟩) hb
      have g0 : wr.cell? ⟨b, off + k * 5, none⟩ = some (.int .u8 (x.k : Int)) := (keep _).trans hx.c0
      have g1 : wr.cell? ⟨b, off + k * 5 + 1, none⟩ = some (.int .i64 x.a) := (keep _).trans hx.c1
      have g2 : wr.cell? ⟨b, off + k * 5 + 2, none⟩ = some (.int .i64 x.n) := (keep _).trans hx.c2
      have g3 : wr.cell? ⟨b, off + k * 5 + 3, none⟩ = some (.string (Om.B x.d)) := (keep _).trans hx.c3
      have g4 : wr.cell? ⟨b, off + k * 5 + 4, none⟩ = some (.slice x.ka x.ks.length x.kc) := (keep _).trans hx.c4
      have hwf : x.Wf := ⟨hx.k, hx.alo, hx.ahi, hx.nlo, hx.nhi, by omega, by omega⟩
      have hPl := hpl.out.P
      have hkept := ((hx.kept.fr (Fr.of_low hpl.out.bel) (fun _ _ h => h)).mono (G := fun k => o.fp k ∨ r.fp k) fun j _ hj => hj.elim (hpl.out.ofp j) (hpl.out.rfp j))
      have hact := act_any hwf hpl.out.dk hpl.out.rk hpl.out.dj (by omega) (by omega) hkept
      rw [hpl.out.op, hpl.out.rp, Ac.same_self] at hact
      have hP2 := step_P (x := x) hpl.out.dk.ok hsm.1
      have HACT := Lib.hid hact
      have HP2 : Hid ((x.step st).P.length ≤ 15 * (k + 1)) := by show _ ≤ _; omega
      unfold Ac.row at HACT
      obtain ⟨nk, hnk⟩ : ∃ nk, nk = x.ks.length := ⟨_, rfl⟩
      rw [← hnk] at g4 HACT
      clear hat hx hsm hxe keep hwf hPl hkept hact hP2 hnk
      go_wp2_with fail
      refine HACT.out.mono ?_
      rintro e w3 ⟨rfl, o1, r1, ht⟩
      have PL := Lib.hid (hpl.out.step ht HP2.out)
      clear ht HACT
      obtain ⟨st1, hst1⟩ : ∃ s, s = x.step st := ⟨_, rfl⟩
      rw [← hst1] at PL
      clear HP2 hst1 g0 g1 g2 g3 g4
      obtain ⟨z0, z1, _, z3, _⟩ := PL.out.rk.reads
      obtain ⟨sa, sc, hsv⟩ := own_slice PL.out.rk.stands
      obtain ⟨pa, pc, hpv⟩ := own_slice PL.out.rk.pend
      rw [hsv, PL.out.rp] at z0
      rw [hpv, PL.out.rp] at z1
      rw [PL.out.rp] at z3
      have c1 := fun n => quiet_same (pending_any (PL.out.dk.drewN n))
      have c2 := fun n => quiet_same (dead_any (PL.out.dk.drewN n))
      have c3 := fun n => quiet_same (bytes_any (PL.out.dk.drewN n))
      have c4 := fun n => quiet_same (rbytes_any (PL.out.rk.drewN n))
      have c5 := fun n => quiet_same (sectors_any (PL.out.dk.drewN n))
      rw [PL.out.op] at c1 c2 c3 c5
      rw [PL.out.rp] at c4
      have K1 := Lib.hid c1
      have K2 := Lib.hid c2
      have K3 := Lib.hid c3
      have K4 := Lib.hid c4
      have K5 := Lib.hid c5
      clear c1 c2 c3 c4 c5 hsv hpv hpl
      go_wp2
      go_quiet (first | (go_at_call 11; exact K1.out _) | (go_at_call 12; exact K2.out _) | (go_at_call 13; exact K3.out _) | (go_at_call 14; exact K4.out _) | (go_at_call 15; exact K5.out _))
      go_wp2
      go_roundw
      case rel => exact ⟨k + 1, o1, r1, st1, by omega, by go_num, Lib.hid (PL.out.drewN _)⟩
      case measure => simp [intOf]; omega
    · obtain rfl : k = m := by omega
      have hd2 : decide (k < k) = false := by simp
      go_wp2_with fail
      refine (AL.out _).mono ?_
      rintro e w3 ⟨rfl, hb⟩
      have HB := Lib.hid hb
      clear hb
      go_wp2
      go_ret
      exact ⟨rfl, hpl.out.bel.trans (HB.out.mono hpl.out.bel.size)⟩
end Dsk
end Go.Proofs.Ytodihhpeggoodaa
