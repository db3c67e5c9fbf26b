/- The walk of DiskClone. -/
import Derived.Test.YtodihhpeggoodaaDiskPlays
import Derived.Test.YtodihhpeggoodaaDiskCopy
namespace Go.Proofs.Ytodihhpeggoodaa
namespace Dsk
open Go.RowKit
set_option linter.unusedVariables false

/-- Behind some acts. -/
def runA (xs : List Ac) (st : Dm.St) : Dm.St := xs.foldl (fun s x => x.step s) st
theorem runA_take {xs : List Ac} {k : Nat} (h : k < xs.length) (st : Dm.St) : runA (xs.take (k + 1)) st = (xs[k]).step (runA (xs.take k) st) := by
  unfold runA
  rw [List.take_succ_eq_append_getElem h, List.foldl_append]
  rfl

/-- Two pairs of disks, side by side. -/
structure Quad (w wr : World) (p q pc qc k j : Nat) (o : Ob) (r : Ro) (oc : Ob) (rc : Ro) (st sc : Dm.St) : Prop where
  a : Play w wr p q k o r st
  b : Play w wr pc qc j oc rc sc
  x : ∀ i, o.fp i ∨ r.fp i → ¬ (oc.fp i ∨ rc.fp i)
theorem Play.aside {w wr w2 : World} {p q pc qc k j : Nat} {o o' oc : Ob} {r r' rc : Ro} {st sr sc st0 : Dm.St} (h0 : Play w wr p q k o r st0) (h : Play w wr pc qc j oc rc sc) (hx : ∀ i, o.fp i ∨ r.fp i → ¬ (oc.fp i ∨ rc.fp i)) (t : Two o r o' r' st sr wr w2) :
    Play w w2 pc qc j oc rc sc ∧ ∀ i, o'.fp i ∨ r'.fp i → ¬ (oc.fp i ∨ rc.fp i) := by
  have hlt : ∀ i, oc.fp i ∨ rc.fp i → i < wr.heap.size := fun i hi => hi.elim (h.dk.lt i) (h.rk.lt i)
  refine ⟨⟨h.dk.keep t.fr fun i hi hc => hx i hc (.inl hi), h.rk.keep t.fr fun i hi hc => hx i hc (.inr hi), h.dj, h.ofp, h.rfp, ?_, h.op, h.rp, h.P⟩, fun i hi hc => ?_⟩
  · exact h0.bel.trans (t.fr.below h0.bel.size fun i hi => hi.elim (h0.ofp i) (h0.rfp i))
  · have := hlt i hc
    rcases hi with hi | hi
    · rcases t.ofp i hi with e | e
      · exact hx i (.inl e) hc
      · omega
    · rcases t.rfp i hi with e | e
      · exact hx i (.inr e) hc
      · omega
theorem Quad.one {w wr w2 : World} {p q pc qc k j : Nat} {o o' oc : Ob} {r r' rc : Ro} {st st' sc : Dm.St} (h : Quad w wr p q pc qc k j o r oc rc st sc) (t : Two o r o' r' st' st' wr w2) (hP : st'.P.length ≤ 15 * (k + 1)) : Quad w w2 p q pc qc (k + 1) j o' r' oc rc st' sc := by
  obtain ⟨h1, h2⟩ := h.a.aside h.b h.x t
  exact ⟨h.a.step t hP, h1, h2⟩
theorem Quad.two {w wr w2 : World} {p q pc qc k j : Nat} {o oc o' : Ob} {r rc r' : Ro} {st sc sc' : Dm.St} (h : Quad w wr p q pc qc k j o r oc rc st sc) (t : Two oc rc o' r' sc' sc' wr w2) (hP : sc'.P.length ≤ 15 * (j + 1)) : Quad w w2 p q pc qc k (j + 1) o r o' r' st sc' := by
  obtain ⟨h1, h2⟩ := h.b.aside h.a (fun i hi hc => h.x i hc hi) t
  exact ⟨h1, h.b.step t hP, fun i hi hc => h2 i hc hi⟩
theorem Play.below {w wr w2 : World} {p q k : Nat} {o : Ob} {r : Ro} {st : Dm.St} (h : Play w wr p q k o r st) (hb : Below wr.heap.size wr w2) : Play w w2 p q k o r st :=
  ⟨h.dk.below hb, h.rk.below hb, h.dj, h.ofp, h.rfp, h.bel.trans (hb.mono h.bel.size), h.op, h.rp, h.P⟩

set_option maxRecDepth 100000 in
theorem clone_no {w : World} {a a2 : Option Addr} {xs ys : List Ac} {c c2 : Nat} (l : List UInt8) (hl : l.length ≤ 9223372036854775807) (hn : xs.length ≤ 9223372036854775807) (h : Acts w a xs) (hn2 : ys.length ≤ 9223372036854775807) (h2 : Acts w a2 ys) (hno : fitB xs = false ∨ fitB ys = false ∨ 2560 < l.length) :
    Calls Try.prog 5 #[.string (Om.B l), .slice a xs.length c, .slice a2 ys.length c2] w fun e w' => e = .returned (.bool true) ∧ Below w.heap.size w w' := by
  have hf := fits_any (c := c) hn h
  have hg := fits_any (c := c2) hn2 h2
  have hs := Om.B_size l
  obtain ⟨m, hm⟩ : ∃ m, m = xs.length := ⟨_, rfl⟩
  obtain ⟨m2, hm2⟩ : ∃ m, m = ys.length := ⟨_, rfl⟩
  obtain ⟨n, hln⟩ : ∃ n, n = l.length := ⟨_, rfl⟩
  rw [← hm] at hf hn ⊢
  rw [← hm2] at hg hn2 ⊢
  rw [← hln] at hs
  have C0 : Hid (∀ w1, Calls Try.prog 7 #[.string (Om.B l)] w1 fun e w' => ∃ q, e = .returned (.pointer q) ∧ Below w1.heap.size w1 w') := fun w1 => by
    by_cases h1 : l.length ≤ 67108864
    · refine (load_any l w1 h1).mono ?_
      rintro e w' ⟨o, he, _, _, hb⟩
      exact ⟨_, he, hb⟩
    · refine (load_no l w1 hl (by omega)).mono ?_
      rintro e w' ⟨he, rfl⟩
      exact ⟨_, he, Below.refl _ _⟩
  have AL := Lib.hid alive_any
  have HF := Lib.hid hf
  have HG := Lib.hid hg
  have main : ∀ b1 b2 b3 : Bool, Hid (b1 = fitB xs) → Hid (b2 = fitB ys) → Hid (b3 = decide (2560 < (n : Int))) → (b1 = false ∨ b2 = false ∨ b3 = true) → Calls Try.prog 5 #[.string (Om.B l), .slice a m c, .slice a2 m2 c2] w fun e w' => e = .returned (.bool true) ∧ Below w.heap.size w w' := by
    intro b1 b2 b3 h1 h2 h3 hor
    rw [← h1.out] at HF
    rw [← h2.out] at HG
    have d3 := h3.out.symm
    clear hf hg h hno hm hm2 hln h1 h2 h3
    cases b1 with
    | false =>
      clear d3 hor
      go_enter Try.func5, Try.ntmps5
      go_wp2_with fail
      refine HF.out.mono ?_
      rintro e w1 ⟨rfl, rfl⟩
      go_wp2_with fail
      refine HG.out.mono ?_
      rintro e w1 ⟨rfl, rfl⟩
      go_wp2_with fail
      refine (C0.out _).mono ?_
      rintro e w1 ⟨q, rfl, hb⟩
      have HB := Lib.hid hb
      clear hb
      go_wp2_with fail
      refine (AL.out _).mono ?_
      rintro e w2 ⟨rfl, hb2⟩
      have HB2 := Lib.hid hb2
      clear hb2
      go_wp2
      go_ret
      exact ⟨rfl, HB.out.trans (HB2.out.mono HB.out.size)⟩
    | true =>
      cases b2 with
      | false =>
        clear d3 hor
        go_enter Try.func5, Try.ntmps5
        go_wp2_with fail
        refine HF.out.mono ?_
        rintro e w1 ⟨rfl, rfl⟩
        go_wp2_with fail
        refine HG.out.mono ?_
        rintro e w1 ⟨rfl, rfl⟩
        go_wp2_with fail
        refine (C0.out _).mono ?_
        rintro e w1 ⟨q, rfl, hb⟩
        have HB := Lib.hid hb
        clear hb
        go_wp2_with fail
        refine (AL.out _).mono ?_
        rintro e w2 ⟨rfl, hb2⟩
        have HB2 := Lib.hid hb2
        clear hb2
        go_wp2
        go_ret
        exact ⟨rfl, HB.out.trans (HB2.out.mono HB.out.size)⟩
      | true =>
        have d3' : decide (2560 < (n : Int)) = true := by rw [d3]; simpa using hor
        clear d3 hor
        go_enter Try.func5, Try.ntmps5
        go_wp2_with fail
        refine HF.out.mono ?_
        rintro e w1 ⟨rfl, rfl⟩
        go_wp2_with fail
        refine HG.out.mono ?_
        rintro e w1 ⟨rfl, rfl⟩
        go_wp2_with fail
        refine (C0.out _).mono ?_
        rintro e w1 ⟨q, rfl, hb⟩
        have HB := Lib.hid hb
        clear hb
        go_wp2_with fail
        refine (AL.out _).mono ?_
        rintro e w2 ⟨rfl, hb2⟩
        have HB2 := Lib.hid hb2
        clear hb2
        go_wp2
        go_ret
        exact ⟨rfl, HB.out.trans (HB2.out.mono HB.out.size)⟩
  refine main _ _ _ (Lib.hid rfl) (Lib.hid rfl) (Lib.hid rfl) ?_
  rcases hno with e | e | e
  · exact .inl e
  · exact .inr (.inl e)
  · exact .inr (.inr (by simp; omega))

set_option maxRecDepth 100000 in
set_option maxHeartbeats 4000000 in
theorem clone_yes {w : World} {a a2 : Option Addr} {xs ys : List Ac} {c c2 : Nat} (l : List UInt8) (hl : l.length ≤ 2560) (hn : xs.length ≤ 9223372036854775807) (h : Acts w a xs) (hn2 : ys.length ≤ 9223372036854775807) (h2 : Acts w a2 ys) (hfit : fitB xs = true) (hfit2 : fitB ys = true) :
    Calls Try.prog 5 #[.string (Om.B l), .slice a xs.length c, .slice a2 ys.length c2] w fun e w' => e = .returned (.bool true) ∧ Below w.heap.size w w' := by
  have hf := fits_any (c := c) hn h
  have hg := fits_any (c := c2) hn2 h2
  have hs := Om.B_size l
  obtain ⟨h60, hsmall⟩ := fit_true hfit
  obtain ⟨h60b, hsmall2⟩ := fit_true hfit2
  obtain ⟨m, hm⟩ : ∃ m, m = xs.length := ⟨_, rfl⟩
  obtain ⟨m2, hm2⟩ : ∃ m, m = ys.length := ⟨_, rfl⟩
  obtain ⟨n, hln⟩ : ∃ n, n = l.length := ⟨_, rfl⟩
  rw [← hm] at hf hn h60 ⊢
  rw [← hm2] at hg hn2 h60b ⊢
  rw [← hln] at hs
  rw [hfit] at hf
  rw [hfit2] at hg
  have hd : decide (2560 < (n : Int)) = false := by simp; omega
  have C0 : Hid (∀ w1, Calls Try.prog 7 #[.string (Om.B l)] w1 fun e w' => Made (Dm.load l) w1.heap.size w1 e w') := fun w1 => load_any l w1 (by omega)
  have C1 : Hid (∀ w1, Calls Try.prog 9 #[.string (Om.B l)] w1 fun e w' => RMade (Dm.load l) w1.heap.size w1 e w') := fun w1 => rload_any l w1 (by omega)
  have AL := Lib.hid alive_any
  have HF := Lib.hid hf
  have HG := Lib.hid hg
  have HA := Lib.hid h
  have HA2 := Lib.hid h2
  have HM := Lib.hid hm
  have HM2 := Lib.hid hm2
  have HSM := Lib.hid hsmall
  have HSM2 := Lib.hid hsmall2
  clear hf hg h h2 hm hm2 hfit hfit2 hln hsmall hsmall2
  go_enter Try.func5, Try.ntmps5
  go_wp2_with fail
  refine HF.out.mono ?_
  rintro e w1 ⟨rfl, rfl⟩
  go_wp2_with fail
  refine HG.out.mono ?_
  rintro e w1 ⟨rfl, rfl⟩
  go_wp2_with fail
  refine (C0.out _).mono ?_
  rintro e w1 ⟨o0, rfl, hd0, hf0, hb0⟩
  have D0 := Lib.hid hd0
  have F0 := Lib.hid hf0
  have B0 := Lib.hid hb0
  clear hd0 hf0 hb0 C0 HF HG
  go_wp2_with fail
  refine (C1.out _).mono ?_
  rintro e w2 ⟨r0, rfl, hr0, hg0, hb1⟩
  have PL : Hid (Play w w2 o0.p r0.p 0 o0 r0 (runA (xs.take 0) (Dm.load l))) := ⟨D0.out.below hb1, hr0, fun k hk hc => by have := D0.out.lt k hk; have := hg0 k hc; omega, F0.out, fun k hk => Nat.le_trans B0.out.size (hg0 k hk), B0.out.trans (hb1.mono B0.out.size), rfl, rfl, Nat.zero_le _⟩
  clear hr0 hg0 hb1 D0 F0 B0 C1
  go_wp2
  go_loopw [11] (fun i wr => ∃ (k : Nat) (o : Ob) (r : Ro), k ≤ m ∧ i = .int .i64 (k : Int) ∧ Hid (Play w wr o0.p r0.p k o r (runA (xs.take k) (Dm.load l)))) (fun i _ => m - (intOf i).toNat)
  case atStart => exact ⟨0, o0, r0, Nat.zero_le _, rfl, PL⟩
  case round =>
    obtain ⟨k, o, r, hk, rfl, hpl⟩ := hrel
    clear PL
    by_cases hlt : k < m
    · have hd2 : decide (k < m) = true := by simpa using hlt
      have hkx : k < xs.length := by rw [← HM.out]; exact hlt
      obtain ⟨b, off, hba, hb, hat⟩ := HA.out (by omega)
      have hx := hat k hkx
      have hsm := HSM.out k hkx
      have htk := runA_take hkx (Dm.load l)
      obtain ⟨x, hxe⟩ : ∃ x, x = xs[k] := ⟨_, rfl⟩
      rw [← hxe] at hx hsm htk
      have keep : ∀ zz, wr.cell? ⟨b, zz, none⟩ = w.cell? ⟨b, zz, none⟩ := fun zz => hpl.out.bel.cell (p := ⟨b, zz, none⟩) hb
      have g0 : wr.cell? ⟨b, off + k * 5, none⟩ = some (.int .u8 (x.k : Int)) := (keep _).trans hx.c0
      have g1 : wr.cell? ⟨b, off + k * 5 + 1, none⟩ = some (.int .i64 x.a) := (keep _).trans hx.c1
      have g2 : wr.cell? ⟨b, off + k * 5 + 2, none⟩ = some (.int .i64 x.n) := (keep _).trans hx.c2
      have g3 : wr.cell? ⟨b, off + k * 5 + 3, none⟩ = some (.string (Om.B x.d)) := (keep _).trans hx.c3
      have g4 : wr.cell? ⟨b, off + k * 5 + 4, none⟩ = some (.slice x.ka x.ks.length x.kc) := (keep _).trans hx.c4
      have hwf : x.Wf := ⟨hx.k, hx.alo, hx.ahi, hx.nlo, hx.nhi, by omega, by omega⟩
      have hPl := hpl.out.P
      have hkept := ((hx.kept.fr (Fr.of_low hpl.out.bel) (fun _ _ h => h)).mono (G := fun zz => o.fp zz ∨ r.fp zz) fun zz _ hzz => hzz.elim (hpl.out.ofp zz) (hpl.out.rfp zz))
      have hact := act_any hwf hpl.out.dk hpl.out.rk hpl.out.dj (by omega) (by omega) hkept
      rw [hpl.out.op, hpl.out.rp, Ac.same_self, ← htk] at hact
      have hP2 := step_P (x := x) hpl.out.dk.ok hsm.1
      rw [← htk] at hP2
      have HACT := Lib.hid hact
      have HP2 : Hid ((runA (xs.take (k + 1)) (Dm.load l)).P.length ≤ 15 * (k + 1)) := by show _ ≤ _; omega
      unfold Ac.row at HACT
      obtain ⟨nk, hnk⟩ : ∃ nk, nk = x.ks.length := ⟨_, rfl⟩
      rw [← hnk] at g4 HACT
      subst hba
      clear hat hx hsm hxe keep hwf hPl hkept hact hP2 hnk htk
      go_wp2_with fail
      refine HACT.out.mono ?_
      rintro e w3 ⟨rfl, o1, r1, ht⟩
      have PL := Lib.hid (hpl.out.step ht HP2.out)
      clear ht HACT HP2 g0 g1 g2 g3 g4
      go_wp2
      go_roundw
      case rel => exact ⟨k + 1, o1, r1, by omega, by go_num, PL⟩
      case measure => simp [intOf]; omega
    · obtain rfl : k = m := by omega
      have hd2 : decide (k < k) = false := by simp
      obtain ⟨st1, hst1⟩ : ∃ s, s = runA (xs.take k) (Dm.load l) := ⟨_, rfl⟩
      rw [← hst1] at hpl
      clear hst1
      have hP1 := hpl.out.P
      have cc := clone_any hpl.out.dk (by omega)
      rw [hpl.out.op] at cc
      have CC := Lib.hid cc
      clear cc
      go_wp2_with fail
      refine CC.out.mono ?_
      rintro e w3 ⟨oc, rfl, hdc, hfc, hbc⟩
      have PL3 := Lib.hid (hpl.out.below hbc)
      have cd := rcopy_any PL3.out.rk (by omega)
      rw [PL3.out.rp] at cd
      have CD := Lib.hid cd
      have DC := Lib.hid hdc
      have FC := Lib.hid hfc
      have BC := Lib.hid hbc
      clear cd hdc hfc hbc CC
      go_wp2_with fail
      refine CD.out.mono ?_
      rintro e w4 ⟨rc, rfl, hrc, hgc, hbd⟩
      have QD : Hid (Quad w w4 o0.p r0.p oc.p rc.p k k o r oc rc (runA (ys.take 0) st1) st1) := by
        have hA := PL3.out.below hbd
        have lo : ∀ i, o.fp i ∨ r.fp i → i < wr.heap.size := fun i hi => hi.elim (hpl.out.dk.lt i) (hpl.out.rk.lt i)
        have hi2 : ∀ i, oc.fp i ∨ rc.fp i → wr.heap.size ≤ i := fun i hi => hi.elim (FC.out i) (fun e => Nat.le_trans BC.out.size (hgc i e))
        refine ⟨hA, ⟨DC.out.below hbd, hrc, fun i hi hc => ?_, fun i hi => Nat.le_trans hpl.out.bel.size (FC.out i hi), fun i hi => Nat.le_trans hpl.out.bel.size (hi2 i (.inr hi)), hA.bel, rfl, rfl, hP1⟩, fun i hi hc => ?_⟩
        · have := DC.out.lt i hi; have := hgc i hc; omega
        · have := lo i hi; have := hi2 i hc; omega
      clear hrc hgc hbd DC FC BC PL3 CD hpl
      go_wp2
      go_loopw [14] (fun i wr => ∃ (j : Nat) (o : Ob) (r : Ro), j ≤ m2 ∧ i = .int .i64 (j : Int) ∧ Hid (Quad w wr o0.p r0.p oc.p rc.p (k + j) k o r oc rc (runA (ys.take j) st1) st1)) (fun i _ => m2 - (intOf i).toNat)
      case atStart => exact ⟨0, o, r, Nat.zero_le _, rfl, QD⟩
      case round =>
        obtain ⟨j, o, r, hj, rfl, hq⟩ := hrel
        clear QD
        obtain ⟨kk, hkk⟩ : ∃ kk, kk = k := ⟨_, rfl⟩
        rw [← hkk] at hq
        have hkb : kk ≤ 60 := by omega
        by_cases hlt : j < m2
        · have hd2 : decide (j < m2) = true := by simpa using hlt
          have hkx : j < ys.length := by rw [← HM2.out]; exact hlt
          obtain ⟨b, off, hba, hb, hat⟩ := HA2.out (by omega)
          have hx := hat j hkx
          have hsm := HSM2.out j hkx
          have htk := runA_take hkx st1
          obtain ⟨x, hxe⟩ : ∃ x, x = ys[j] := ⟨_, rfl⟩
          rw [← hxe] at hx hsm htk
          have keep : ∀ zz, wr.cell? ⟨b, zz, none⟩ = w.cell? ⟨b, zz, none⟩ := fun zz => hq.out.a.bel.cell (p := ⟨b, zz, none⟩) hb
          have g0 : wr.cell? ⟨b, off + j * 5, none⟩ = some (.int .u8 (x.k : Int)) := (keep _).trans hx.c0
          have g1 : wr.cell? ⟨b, off + j * 5 + 1, none⟩ = some (.int .i64 x.a) := (keep _).trans hx.c1
          have g2 : wr.cell? ⟨b, off + j * 5 + 2, none⟩ = some (.int .i64 x.n) := (keep _).trans hx.c2
          have g3 : wr.cell? ⟨b, off + j * 5 + 3, none⟩ = some (.string (Om.B x.d)) := (keep _).trans hx.c3
          have g4 : wr.cell? ⟨b, off + j * 5 + 4, none⟩ = some (.slice x.ka x.ks.length x.kc) := (keep _).trans hx.c4
          have hwf : x.Wf := ⟨hx.k, hx.alo, hx.ahi, hx.nlo, hx.nhi, by omega, by omega⟩
          have hPl := hq.out.a.P
          have hkept := ((hx.kept.fr (Fr.of_low hq.out.a.bel) (fun _ _ h => h)).mono (G := fun zz => o.fp zz ∨ r.fp zz) fun zz _ hzz => hzz.elim (hq.out.a.ofp zz) (hq.out.a.rfp zz))
          have hact := act_any hwf hq.out.a.dk hq.out.a.rk hq.out.a.dj (by omega) (by omega) hkept
          rw [hq.out.a.op, hq.out.a.rp, Ac.same_self, ← htk] at hact
          have hP2 := step_P (x := x) hq.out.a.dk.ok hsm.1
          rw [← htk] at hP2
          have HACT := Lib.hid hact
          have HP2 : Hid ((runA (ys.take (j + 1)) st1).P.length ≤ 15 * ((kk + j) + 1)) := by show _ ≤ _; omega
          unfold Ac.row at HACT
          obtain ⟨nk, hnk⟩ : ∃ nk, nk = x.ks.length := ⟨_, rfl⟩
          rw [← hnk] at g4 HACT
          subst hba
          clear hat hx hsm hxe keep hwf hPl hkept hact hP2 hnk htk
          go_wp2_with fail
          refine HACT.out.mono ?_
          rintro e w3 ⟨rfl, o1, r1, ht⟩
          have PL := Lib.hid (hq.out.one ht HP2.out)
          clear ht HACT HP2 g0 g1 g2 g3 g4
          go_wp2
          go_roundw
          case rel => exact ⟨j + 1, o1, r1, by omega, by go_num, (by rw [← hkk, ← Nat.add_assoc]; exact PL)⟩
          case measure => simp [intOf]; omega
        · obtain rfl : j = m2 := by omega
          have hd3 : decide (j < j) = false := by simp
          clear hkk
          obtain ⟨st2, hst2⟩ : ∃ s, s = runA (ys.take j) st1 := ⟨_, rfl⟩
          rw [← hst2] at hq
          have HST2 := Lib.hid hst2
          clear hst2
          obtain ⟨z0, z1, _, z3, _⟩ := hq.out.b.rk.reads
          obtain ⟨sa, sc, hsv⟩ := own_slice hq.out.b.rk.stands
          obtain ⟨pa, pc, hpv⟩ := own_slice hq.out.b.rk.pend
          rw [hpv, hq.out.b.rp] at z1
          rw [hq.out.b.rp] at z3
          have c1 := fun n => quiet_same (pending_any (hq.out.b.dk.drewN n))
          have c2 := fun n => quiet_same (dead_any (hq.out.b.dk.drewN n))
          have c3 := fun n => quiet_same (bytes_any (hq.out.b.dk.drewN n))
          have c4 := fun n => quiet_same (rbytes_any (hq.out.b.rk.drewN n))
          rw [hq.out.b.op] at c1 c2 c3
          rw [hq.out.b.rp] at c4
          have K1 := Lib.hid c1
          have K2 := Lib.hid c2
          have K3 := Lib.hid c3
          have K4 := Lib.hid c4
          clear c1 c2 c3 c4 hsv hpv z0
          go_wp2
          go_quiet (first | (go_at_call 11; exact K1.out _) | (go_at_call 12; exact K2.out _) | (go_at_call 13; exact K3.out _) | (go_at_call 14; exact K4.out _))
          have QD : Hid (∀ nq, Quad w (wr.drewN nq) o0.p r0.p oc.p rc.p (kk + j) kk o r oc rc st2 (runA (ys.take 0) st1)) := fun nq => ⟨hq.out.a.drewN _, hq.out.b.drewN _, hq.out.x⟩
          clear hq z1 z3 K1 K2 K3 K4
          go_wp2
          go_loopw [15] (fun i wr => ∃ (t : Nat) (oc' : Ob) (rc' : Ro), t ≤ j ∧ i = .int .i64 (t : Int) ∧ Hid (Quad w wr o0.p r0.p oc.p rc.p (kk + j) (kk + t) o r oc' rc' st2 (runA (ys.take t) st1))) (fun i _ => j - (intOf i).toNat)
          case atStart => exact ⟨0, oc, rc, Nat.zero_le _, rfl, Lib.hid (QD.out _)⟩
          case round =>
            obtain ⟨t, oc', rc', ht, rfl, hq⟩ := hrel
            clear QD
            by_cases hlt : t < j
            · have hd2 : decide (t < j) = true := by simpa using hlt
              have hkx : t < ys.length := by rw [← HM2.out]; exact hlt
              obtain ⟨b, off, hba, hb, hat⟩ := HA2.out (by omega)
              have hx := hat t hkx
              have hsm := HSM2.out t hkx
              have htk := runA_take hkx st1
              obtain ⟨x, hxe⟩ : ∃ x, x = ys[t] := ⟨_, rfl⟩
              rw [← hxe] at hx hsm htk
              have keep : ∀ zz, wr.cell? ⟨b, zz, none⟩ = w.cell? ⟨b, zz, none⟩ := fun zz => hq.out.b.bel.cell (p := ⟨b, zz, none⟩) hb
              have g0 : wr.cell? ⟨b, off + t * 5, none⟩ = some (.int .u8 (x.k : Int)) := (keep _).trans hx.c0
              have g1 : wr.cell? ⟨b, off + t * 5 + 1, none⟩ = some (.int .i64 x.a) := (keep _).trans hx.c1
              have g2 : wr.cell? ⟨b, off + t * 5 + 2, none⟩ = some (.int .i64 x.n) := (keep _).trans hx.c2
              have g3 : wr.cell? ⟨b, off + t * 5 + 3, none⟩ = some (.string (Om.B x.d)) := (keep _).trans hx.c3
              have g4 : wr.cell? ⟨b, off + t * 5 + 4, none⟩ = some (.slice x.ka x.ks.length x.kc) := (keep _).trans hx.c4
              have hwf : x.Wf := ⟨hx.k, hx.alo, hx.ahi, hx.nlo, hx.nhi, by omega, by omega⟩
              have hPl := hq.out.b.P
              have hkept := ((hx.kept.fr (Fr.of_low hq.out.b.bel) (fun _ _ h => h)).mono (G := fun zz => oc'.fp zz ∨ rc'.fp zz) fun zz _ hzz => hzz.elim (hq.out.b.ofp zz) (hq.out.b.rfp zz))
              have hact := act_any hwf hq.out.b.dk hq.out.b.rk hq.out.b.dj (by omega) (by omega) hkept
              rw [hq.out.b.op, hq.out.b.rp, Ac.same_self, ← htk] at hact
              have hP2 := step_P (x := x) hq.out.b.dk.ok hsm.1
              rw [← htk] at hP2
              have HACT := Lib.hid hact
              have HP2 : Hid ((runA (ys.take (t + 1)) st1).P.length ≤ 15 * ((kk + t) + 1)) := by show _ ≤ _; omega
              unfold Ac.row at HACT
              obtain ⟨nk, hnk⟩ : ∃ nk, nk = x.ks.length := ⟨_, rfl⟩
              rw [← hnk] at g4 HACT
              subst hba
              clear hat hx hsm hxe keep hwf hPl hkept hact hP2 hnk htk
              go_wp2_with fail
              refine HACT.out.mono ?_
              rintro e w3 ⟨rfl, o1, r1, ht⟩
              have PL := Lib.hid (hq.out.two ht HP2.out)
              clear ht HACT HP2 g0 g1 g2 g3 g4
              go_wp2
              go_roundw
              case rel => exact ⟨t + 1, o1, r1, by omega, by go_num, (by rw [← Nat.add_assoc]; exact PL)⟩
              case measure => simp [intOf]; omega
            · obtain rfl : t = j := by omega
              have hd4 : decide (t < t) = false := by simp
              rw [← HST2.out] at hq
              go_wp2_with fail
              refine (read_nil 0 0 _).mono ?_
              rintro e w' ⟨rfl, rfl⟩
              go_wp2_with fail
              refine (fail_nil 1 _).mono ?_
              rintro e w' ⟨rfl, rfl⟩
              go_wp2_with fail
              refine (restart_nil _ _).mono ?_
              rintro e w' ⟨rfl, rfl⟩
              have BX := Lib.hid (box_below wr (.cells #[.bool true] 4))
              go_wp2_with fail
              refine (AL.out _).mono ?_
              rintro e w9 ⟨rfl, hb9⟩
              have B9 : Hid (Below wr.heap.size wr w9) := BX.out.trans (hb9.mono (by simp))
              clear hb9 BX
              have QA := Lib.hid (hq.out.a.below B9.out)
              have QB := Lib.hid (hq.out.b.below B9.out)
              have c1 := bytes_any QA.out.dk
              have c2 := bytes_any QB.out.dk
              rw [QA.out.op] at c1
              rw [QB.out.op] at c2
              have K1 := Lib.hid c1
              have K2 := Lib.hid c2
              clear c1 c2 hq
              go_wp2_with fail
              refine K2.out.mono ?_
              rintro e w' ⟨rfl, rfl⟩
              go_wp2_with fail
              refine K1.out.mono ?_
              rintro e w' ⟨rfl, rfl⟩
              go_wp2_with fail
              refine (write_nil 0 _ _).mono ?_
              rintro e w' ⟨rfl, rfl⟩
              go_wp2_with fail
              refine (flush_nil _).mono ?_
              rintro e w' ⟨rfl, rfl⟩
              go_wp2_with fail
              refine (pending_nil _).mono ?_
              rintro e w' ⟨rfl, rfl⟩
              go_wp2_with fail
              refine (sectors_nil _).mono ?_
              rintro e w' ⟨rfl, rfl⟩
              go_wp2_with fail
              refine (dead_nil _).mono ?_
              rintro e w' ⟨rfl, rfl⟩
              go_wp2_with fail
              refine (bytes_nil _).mono ?_
              rintro e w' ⟨rfl, rfl⟩
              go_wp2_with fail
              refine (clone_nil _).mono ?_
              rintro e w' ⟨rfl, rfl⟩
              go_wp2_with fail
              refine (new_no (-1) _ (by omega)).mono ?_
              rintro e w' ⟨rfl, rfl⟩
              go_wp2_with fail
              refine (new_no 1048577 _ (by omega)).mono ?_
              rintro e w' ⟨rfl, rfl⟩
              go_wp2
              go_ret
              exact ⟨rfl, QA.out.bel⟩
end Dsk
end Go.Proofs.Ytodihhpeggoodaa
