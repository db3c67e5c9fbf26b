/- The walk of DiskFlushed. -/
import Derived.Test.YtodihhpeggoodaaDiskFlu
namespace Go.Proofs.Ytodihhpeggoodaa
namespace Dsk
open Go.RowKit
set_option linter.unusedVariables false

set_option maxRecDepth 100000 in
theorem flushed_no {w : World} {a ka : Option Addr} {xs : List Ac} {ks : List Bool} {c kc : Nat} (l : List UInt8) (hl : l.length ≤ 9223372036854775807) (hn : xs.length ≤ 9223372036854775807) (h : Acts w a xs) (hkl : ks.length ≤ 9223372036854775807) (hno : fitB xs = false ∨ 2560 < l.length ∨ 1000 < ks.length) :
    Calls Try.prog 4 #[.string (Om.B l), .slice a xs.length c, .slice ka ks.length kc] w fun e w' => e = .returned (.bool true) ∧ Below w.heap.size w w' := by
  have hf := fits_any (c := c) hn h
  have hs := Om.B_size l
  obtain ⟨m, hm⟩ : ∃ m, m = xs.length := ⟨_, rfl⟩
  obtain ⟨n, hln⟩ : ∃ n, n = l.length := ⟨_, rfl⟩
  obtain ⟨nk, hnk⟩ : ∃ nk, nk = ks.length := ⟨_, rfl⟩
  rw [← hm] at hf hn ⊢
  rw [← hln] at hs
  rw [← hnk] at hkl ⊢
  have C0 : Hid (∀ w1, Calls Try.prog 7 #[.string (Om.B l)] w1 fun e w' => ∃ q, e = .returned (.pointer q) ∧ Below w1.heap.size w1 w') := fun w1 => by
    by_cases h1 : l.length ≤ 67108864
    · refine (load_any l w1 h1).mono ?_
      rintro e w' ⟨o, he, _, _, hb⟩
      exact ⟨_, he, hb⟩
    · refine (load_no l w1 hl (by omega)).mono ?_
      rintro e w' ⟨he, rfl⟩
      exact ⟨_, he, Below.refl _ _⟩
  have AL := Lib.hid alive_any
  have HF := Lib.hid hf
  have main : ∀ b1 b2 b3 : Bool, Hid (b1 = fitB xs) → Hid (b2 = decide (2560 < (n : Int))) → Hid (b3 = decide (1000 < (nk : Int))) → (b1 = false ∨ b2 = true ∨ b3 = true) → Calls Try.prog 4 #[.string (Om.B l), .slice a m c, .slice ka nk kc] w fun e w' => e = .returned (.bool true) ∧ Below w.heap.size w w' := by
    intro b1 b2 b3 h1 h2 h3 hor
    rw [← h1.out] at HF
    have d2 := h2.out.symm
    have d3 := h3.out.symm
    clear hf h hno hm hln hnk h1 h2 h3
    cases b1 with
    | false =>
      clear d2 d3 hor
      go_enter Try.func4, Try.ntmps4
      go_wp2_with fail
      refine HF.out.mono ?_
      rintro e w1 ⟨rfl, rfl⟩
      go_wp2_with fail
      refine (C0.out _).mono ?_
      rintro e w1 ⟨q, rfl, hb⟩
      have HB := Lib.hid hb
      clear hb
      go_wp2_with fail
      refine (AL.out _).mono ?_
      rintro e w2 ⟨rfl, hb2⟩
      have HB2 := Lib.hid hb2
      clear hb2
      go_wp2
      go_ret
      exact ⟨rfl, HB.out.trans (HB2.out.mono HB.out.size)⟩
    | true =>
      cases b2 with
      | true =>
        clear d3 hor
        go_enter Try.func4, Try.ntmps4
        go_wp2_with fail
        refine HF.out.mono ?_
        rintro e w1 ⟨rfl, rfl⟩
        go_wp2_with fail
        refine (C0.out _).mono ?_
        rintro e w1 ⟨q, rfl, hb⟩
        have HB := Lib.hid hb
        clear hb
        go_wp2_with fail
        refine (AL.out _).mono ?_
        rintro e w2 ⟨rfl, hb2⟩
        have HB2 := Lib.hid hb2
        clear hb2
        go_wp2
        go_ret
        exact ⟨rfl, HB.out.trans (HB2.out.mono HB.out.size)⟩
      | false =>
        have d3' : decide (1000 < (nk : Int)) = true := by rw [d3]; simpa using hor
        clear d3 hor
        go_enter Try.func4, Try.ntmps4
        go_wp2_with fail
        refine HF.out.mono ?_
        rintro e w1 ⟨rfl, rfl⟩
        go_wp2_with fail
        refine (C0.out _).mono ?_
        rintro e w1 ⟨q, rfl, hb⟩
        have HB := Lib.hid hb
        clear hb
        go_wp2_with fail
        refine (AL.out _).mono ?_
        rintro e w2 ⟨rfl, hb2⟩
        have HB2 := Lib.hid hb2
        clear hb2
        go_wp2
        go_ret
        exact ⟨rfl, HB.out.trans (HB2.out.mono HB.out.size)⟩
  refine main _ _ _ (Lib.hid rfl) (Lib.hid rfl) (Lib.hid rfl) ?_
  rcases hno with e | e | e
  · exact .inl e
  · exact .inr (.inl (by simp; omega))
  · exact .inr (.inr (by simp; omega))

set_option maxRecDepth 100000 in
set_option maxHeartbeats 4000000 in
theorem flushed_yes {w : World} {a ka : Option Addr} {xs : List Ac} {ks : List Bool} {c kc : Nat} (l : List UInt8) (hl : l.length ≤ 2560) (hn : xs.length ≤ 9223372036854775807) (h : Acts w a xs) (hfit : fitB xs = true) (hkl : ks.length ≤ 1000) (hkk : Kept w (fun k => w.heap.size ≤ k) ka ks) :
    Calls Try.prog 4 #[.string (Om.B l), .slice a xs.length c, .slice ka ks.length kc] w fun e w' => e = .returned (.bool true) ∧ Below w.heap.size w w' := by
  obtain ⟨i0, hi, hz0, hz1, hz2⟩ := info_parts info_rwrite
  have hf := fits_any (c := c) hn h
  have hs := Om.B_size l
  obtain ⟨h60, hsmall⟩ := fit_true hfit
  have C9 : Hid (∀ w1 o st, Dk w1 o st → st.P.length ≤ 1099511627776 → Kept w1 o.fp ka ks → Calls Try.prog 18 #[.pointer (some ⟨o.p, 0, none⟩), .slice ka ks.length kc] w1 fun e w' => e = .returned (.tuple #[]) ∧ Went o (Dm.restart st ks) w1 w') :=
    fun w1 o st hd hp hk => restart_any hd hp ks ka kc (by omega) hk
  obtain ⟨m, hm⟩ : ∃ m, m = xs.length := ⟨_, rfl⟩
  obtain ⟨n, hln⟩ : ∃ n, n = l.length := ⟨_, rfl⟩
  obtain ⟨nq, hnq⟩ : ∃ nq, nq = ks.length := ⟨_, rfl⟩
  rw [← hm] at hf hn h60 ⊢
  rw [← hln] at hs
  rw [← hnq] at hkl C9 ⊢
  rw [hfit] at hf
  have hd : decide (2560 < (n : Int)) = false := by simp; omega
  have hdk : decide (1000 < (nq : Int)) = false := by simp; omega
  have C0 : Hid (∀ w1, Calls Try.prog 7 #[.string (Om.B l)] w1 fun e w' => Made (Dm.load l) w1.heap.size w1 e w') := fun w1 => load_any l w1 (by omega)
  obtain ⟨ns, hns⟩ : ∃ ns, ns = (Dm.load l).S.length := ⟨_, rfl⟩
  have hns2 : ns ≤ 40 := by rw [hns, Dm.load_length]; omega
  have AL := Lib.hid alive_any
  have NEW0 := Lib.hid new0_any
  have HF := Lib.hid hf
  have HA := Lib.hid h
  have HM := Lib.hid hm
  have HSM := Lib.hid hsmall
  have HKK := Lib.hid hkk
  have HNS := Lib.hid hns
  clear hf h hm hfit hln hsmall hkk hnq hns
  go_enter Try.func4, Try.ntmps4
  go_wp2_with fail
  refine HF.out.mono ?_
  rintro e w1 ⟨rfl, rfl⟩
  go_wp2_with fail
  refine (C0.out _).mono ?_
  rintro e w1 ⟨o0, rfl, hd0, hf0, hb0⟩
  have PL : Hid (Flx w w1 o0.p ns 0 o0 (Dm.load l) (.slice none 0 0) []) := ⟨⟨hd0, hf0, hb0, rfl, HNS.out.symm, World.ownsRow_nil _ _ _ _⟩, (fun x hx => by cases hx), Nat.zero_le _, Nat.zero_le _⟩
  clear hd0 hf0 hb0 C0 HF
  go_wp2
  go_loopw [9, 10] (fun sv i wr => ∃ (k : Nat) (o : Ob) (st : Dm.St) (Z : List (Nat × List UInt8)), k ≤ m ∧ i = .int .i64 (k : Int) ∧ Hid (Flx w wr o0.p ns k o st sv Z)) (fun _ i _ => m - (intOf i).toNat)
  case atStart => exact ⟨0, o0, _, [], Nat.zero_le _, rfl, PL⟩
  case round =>
    obtain ⟨k, o, st, Z, hk, rfl, hpl⟩ := hrel
    clear PL
    obtain ⟨sa, sc, hsv⟩ := own_slice hpl.out.own
    obtain ⟨nz, hnz⟩ : ∃ nz, nz = Z.length := ⟨_, rfl⟩
    rw [← hnz] at hsv
    subst hsv
    have HNZ := Lib.hid hnz
    clear hnz
    by_cases hlt : k < m
    · have hd2 : decide (k < m) = true := by simpa using hlt
      have hkx : k < xs.length := by rw [← HM.out]; exact hlt
      obtain ⟨b, off, rfl, hb, hat⟩ := HA.out (by omega)
      have hx := hat k hkx
      have hsm := HSM.out k hkx
      obtain ⟨x, hxe⟩ : ∃ x, x = xs[k] := ⟨_, rfl⟩
      rw [← hxe] at hx hsm
      have HB := Lib.hid hb
      have HX := Lib.hid hx
      clear hat hx hxe hb
      have hPl := hpl.out.P
      have hZl := hpl.out.Zl
      obtain ⟨np, hnp⟩ : ∃ np, np = st.P.length := ⟨_, rfl⟩
      rw [← hnp] at hPl
      have c5 := sectors_any hpl.out.dk
      have c6 := read_any hpl.out.dk 0 (ns : Int) (by omega) (by omega)
      rw [hpl.out.op, hpl.out.S] at c5
      rw [hpl.out.op] at c6
      obtain ⟨X0, hX0⟩ : ∃ X, X = Dm.readS st 0 (ns : Int) := ⟨_, rfl⟩
      obtain ⟨E0, hE0⟩ : ∃ E, E = Dm.readE st 0 (ns : Int) := ⟨_, rfl⟩
      rw [← hX0, ← hE0] at c6
      have K5 := Lib.hid c5
      have K6 := Lib.hid c6
      have HX0 := Lib.hid hX0
      have HE0 := Lib.hid hE0
      have HNP := Lib.hid hnp
      clear c5 c6 hX0 hE0 hnp
      go_wp2_with fail
      refine K5.out.mono ?_
      rintro e w' ⟨rfl, rfl⟩
      go_wp2_with fail
      refine K6.out.mono ?_
      rintro e w2 ⟨rfl, hb2⟩
      have FL2 := Lib.hid (hpl.out.toFlu.below hb2)
      clear hb2 K5 K6
      have c1 := pending_any FL2.out.dk
      rw [FL2.out.op, ← HNP.out] at c1
      have K1 := Lib.hid c1
      clear c1
      go_wp2_with fail
      refine K1.out.mono ?_
      rintro e w' ⟨rfl, rfl⟩
      clear K1
      obtain ⟨nk, hnk⟩ : ∃ nk, nk = x.ks.length := ⟨_, rfl⟩
      have HNK := Lib.hid hnk
      clear hnk
      have g0 : w2.cell? ⟨b, off + k * 5, none⟩ = some (.int .u8 (x.k : Int)) := (FL2.out.bel.cell (p := ⟨b, _, none⟩) HB.out).trans HX.out.c0
      have g1 : w2.cell? ⟨b, off + k * 5 + 1, none⟩ = some (.int .i64 x.a) := (FL2.out.bel.cell (p := ⟨b, _, none⟩) HB.out).trans HX.out.c1
      have g2 : w2.cell? ⟨b, off + k * 5 + 2, none⟩ = some (.int .i64 x.n) := (FL2.out.bel.cell (p := ⟨b, _, none⟩) HB.out).trans HX.out.c2
      have g3 : w2.cell? ⟨b, off + k * 5 + 3, none⟩ = some (.string (Om.B x.d)) := (FL2.out.bel.cell (p := ⟨b, _, none⟩) HB.out).trans HX.out.c3
      have g4 : w2.cell? ⟨b, off + k * 5 + 4, none⟩ = some (.slice x.ka nk x.kc) := (FL2.out.bel.cell (p := ⟨b, _, none⟩) HB.out).trans (by rw [HNK.out]; exact HX.out.c4)
      have hwf : x.Wf := ⟨HX.out.k, HX.out.alo, HX.out.ahi, HX.out.nlo, HX.out.nhi, by omega, by omega⟩
      have CA : Hid (∀ w4 r0, Below w2.heap.size w2 w4 → Rk w4 r0 (Dm.fresh 0) → (∀ k, r0.fp k → w2.heap.size ≤ k) → Calls Try.prog 10 #[.pointer (some ⟨o0.p, 0, none⟩), .pointer (some ⟨r0.p, 0, none⟩), .agg #[.int .u8 (x.k : Int), .int .i64 x.a, .int .i64 x.n, .string (Om.B x.d), .slice x.ka nk x.kc]] w4 fun e w' => (∃ bo, e = .returned (.bool bo)) ∧ ∃ o', Flu w w' o0.p ns o' (x.step st) (.slice sa nz sc) Z) := fun w4 r0 hb hr hf0 => by
        have hF := FL2.out.below hb
        have hact := act_any hwf hF.dk hr (fun j hj hc => by have := FL2.out.dk.lt j hj; have := hf0 j hc; omega) (by have := HNP.out; omega) (Nat.zero_le _) ((HX.out.kept.fr (Fr.of_low hF.bel) (fun _ _ h => h)).mono fun j _ hj => hj.elim (hF.ofp j) (fun e => Nat.le_trans FL2.out.bel.size (hf0 j e)))
        rw [hF.op] at hact
        unfold Ac.row at hact
        rw [← HNK.out] at hact
        refine hact.mono ?_
        rintro e w' ⟨rfl, o', r', ht⟩
        exact ⟨⟨_, rfl⟩, o', FL2.out.act hb hf0 ht ((step_S x hF.dk.ok).trans hF.S)⟩
      have hP3 := step_P (x := x) hpl.out.dk.ok hsm.1
      have hcs := step_cases x st
      have hst := fun h5 : x.k % 5 = 2 => (show x.step st = (Dm.flush st).1 by unfold Ac.step; simp only [h5])
      obtain ⟨st1, hst1⟩ : ∃ s, s = x.step st := ⟨_, rfl⟩
      rw [← hst1] at CA hP3 hcs hst
      have HP3 := Lib.hid hP3
      have HCS := Lib.hid hcs
      have HST := Lib.hid hst
      clear hP3 hcs hst hst1 hwf
      go_wp2
      go_region_held3 (fun w' => w'.cell? ⟨b, off + k * 5, none⟩ = some (.int .u8 (x.k : Int)) ∧ w'.cell? ⟨b, off + k * 5 + 1, none⟩ = some (.int .i64 x.a) ∧ w'.cell? ⟨b, off + k * 5 + 2, none⟩ = some (.int .i64 x.n) ∧ w'.cell? ⟨b, off + k * 5 + 3, none⟩ = some (.string (Om.B x.d)) ∧ w'.cell? ⟨b, off + k * 5 + 4, none⟩ = some (.slice x.ka nk x.kc))
        (first | go_keep | (refine ⟨?_, ?_, ?_, ?_, ?_⟩ <;> assumption))
        (first | (go_at_call 17; refine (NEW0.out _).mono ?_; rintro e w4 ⟨r0, rfl, hr0, hf0, hb4⟩; have B4 : Hid (Below w2.heap.size w2 w4) := (Below.drew (Below.refl _ _)).trans hb4; have R4 := Lib.hid hr0; have F4 : Hid (∀ k, r0.fp k → w2.heap.size ≤ k) := hf0; have q0 := (B4.out.cell (p := ⟨b, off + k * 5, none⟩) (Nat.lt_of_lt_of_le HB.out FL2.out.bel.size)).trans g0; have q1 := (B4.out.cell (p := ⟨b, off + k * 5 + 1, none⟩) (Nat.lt_of_lt_of_le HB.out FL2.out.bel.size)).trans g1; have q2 := (B4.out.cell (p := ⟨b, off + k * 5 + 2, none⟩) (Nat.lt_of_lt_of_le HB.out FL2.out.bel.size)).trans g2; have q3 := (B4.out.cell (p := ⟨b, off + k * 5 + 3, none⟩) (Nat.lt_of_lt_of_le HB.out FL2.out.bel.size)).trans g3; have q4 := (B4.out.cell (p := ⟨b, off + k * 5 + 4, none⟩) (Nat.lt_of_lt_of_le HB.out FL2.out.bel.size)).trans g4; clear hr0 hf0 hb4) | (go_at_call 10; refine (CA.out _ _ B4.out R4.out F4.out).mono ?_; rintro e w5 ⟨⟨bo, rfl⟩, o1, hfl⟩; have FL := Lib.hid hfl; have z0 := (hfl.bel.cell (p := ⟨b, off + k * 5, none⟩) HB.out).trans HX.out.c0; have z1 := (hfl.bel.cell (p := ⟨b, off + k * 5 + 1, none⟩) HB.out).trans HX.out.c1; have z2 := (hfl.bel.cell (p := ⟨b, off + k * 5 + 2, none⟩) HB.out).trans HX.out.c2; have z3 := (hfl.bel.cell (p := ⟨b, off + k * 5 + 3, none⟩) HB.out).trans HX.out.c3; have z4 : w5.cell? ⟨b, off + k * 5 + 4, none⟩ = some (.slice x.ka nk x.kc) := (hfl.bel.cell (p := ⟨b, off + k * 5 + 4, none⟩) HB.out).trans (by rw [HNK.out]; exact HX.out.c4); clear hfl))
      have hP3 := HP3.out
      have c1 := pending_any FL.out.dk
      have c2 := dead_any FL.out.dk
      have c3 := bytes_any FL.out.dk
      rw [FL.out.op] at c1 c2 c3
      obtain ⟨V1, hV1⟩ : ∃ V : Int, V = (st1.P.length : Int) := ⟨_, rfl⟩
      obtain ⟨D1, hD1⟩ : ∃ D, D = st1.dead := ⟨_, rfl⟩
      obtain ⟨X1, hX1⟩ : ∃ X, X = st1.S.flatten := ⟨_, rfl⟩
      rw [← hV1] at c1
      rw [← hD1] at c2
      rw [← hX1] at c3
      have K1 := Lib.hid c1
      have K2 := Lib.hid c2
      have K3 := Lib.hid c3
      have hnp := HNP.out
      have b1 : 0 ≤ V1 := by omega
      have b2 : V1 ≤ 1000 := by omega
      obtain ⟨F, hF⟩ : ∃ F : Int, V1 - (np : Int) = F := ⟨_, rfl⟩
      have HV1 := Lib.hid hV1
      have HD1 := Lib.hid hD1
      have HX1 := Lib.hid hX1
      have hkb := HX.out.k
      clear c1 c2 c3 hV1 hD1 hX1 hnp hP3 g0 g1 g2 g3 g4 q0 q1 q2 q3 q4 z1 z2 z4 CA NEW0 B4 R4 F4
      by_cases hc : st1.P = []
      · have hv0 : (V1 == 0) = true := by have := HV1.out; rw [hc] at this; simpa using this
        have hF0 : decide (0 < F) = false := by
          have h1 : V1 = 0 := by simpa using hv0
          simp; omega
        have FX : Hid (Flx w w5 o0.p ns (k + 1) o1 st1 (.slice none 0 0) []) := ⟨⟨FL.out.dk, FL.out.ofp, FL.out.bel, FL.out.op, FL.out.S, World.ownsRow_nil _ _ _ _⟩, (fun y hy => by rw [hc] at hy; cases hy), by rw [hc]; exact Nat.zero_le _, Nat.zero_le _⟩
        clear hc
        by_cases h5 : x.k % 5 = 2
        · have hk2 : ((x.k : Int) % 5 == 2) = true := by simp; omega
          cases D1 with
          | true =>
            clear h5
            go_wp2_with (first | (go_at_call 11; refine K1.out.mono ?_; rintro e w' ⟨rfl, rfl⟩) | (go_at_call 12; refine K2.out.mono ?_; rintro e w' ⟨rfl, rfl⟩) | (go_at_call 13; refine K3.out.mono ?_; rintro e w' ⟨rfl, rfl⟩))
            go_loop [9, 15] (fun v j => v = .slice none 0 0 ∧ j = .int .i64 0) (fun _ _ => 0)
            case atStart => exact ⟨rfl, rfl⟩
            case round =>
              obtain ⟨rfl, rfl⟩ := hrel
              go_wp2
              go_roundw
              case rel => exact ⟨k + 1, o1, st1, [], by omega, by go_num, FX⟩
              case measure => simp [intOf]; omega
          | false =>
            by_cases he : E0 = 0
            · have hst := HST.out h5
              have hfs : X1 = X0 := by
                rw [HX1.out, HX0.out, hst, ← hpl.out.S]
                refine Dm.flush_stands hpl.out.dk.ok ?_ ?_
                · rw [← hst]; exact HD1.out.symm
                · rw [hpl.out.S, ← HE0.out]; exact he
              subst hfs
              subst he
              clear hst h5
              go_wp2_with (first | (go_at_call 11; refine K1.out.mono ?_; rintro e w' ⟨rfl, rfl⟩) | (go_at_call 12; refine K2.out.mono ?_; rintro e w' ⟨rfl, rfl⟩) | (go_at_call 13; refine K3.out.mono ?_; rintro e w' ⟨rfl, rfl⟩))
              go_loop [9, 15] (fun v j => v = .slice none 0 0 ∧ j = .int .i64 0) (fun _ _ => 0)
              case atStart => exact ⟨rfl, rfl⟩
              case round =>
                obtain ⟨rfl, rfl⟩ := hrel
                go_wp2
                go_roundw
                case rel => exact ⟨k + 1, o1, st1, [], by omega, by go_num, FX⟩
                case measure => simp [intOf]; omega
            · have he' : (E0 == 0) = false := by simpa using he
              clear he h5
              go_wp2_with (first | (go_at_call 11; refine K1.out.mono ?_; rintro e w' ⟨rfl, rfl⟩) | (go_at_call 12; refine K2.out.mono ?_; rintro e w' ⟨rfl, rfl⟩) | (go_at_call 13; refine K3.out.mono ?_; rintro e w' ⟨rfl, rfl⟩))
              go_loop [9, 15] (fun v j => v = .slice none 0 0 ∧ j = .int .i64 0) (fun _ _ => 0)
              case atStart => exact ⟨rfl, rfl⟩
              case round =>
                obtain ⟨rfl, rfl⟩ := hrel
                go_wp2
                go_roundw
                case rel => exact ⟨k + 1, o1, st1, [], by omega, by go_num, FX⟩
                case measure => simp [intOf]; omega
        · have hk2 : ((x.k : Int) % 5 == 2) = false := by simp; omega
          clear h5
          go_wp2_with (first | (go_at_call 11; refine K1.out.mono ?_; rintro e w' ⟨rfl, rfl⟩) | (go_at_call 12; refine K2.out.mono ?_; rintro e w' ⟨rfl, rfl⟩) | (go_at_call 13; refine K3.out.mono ?_; rintro e w' ⟨rfl, rfl⟩))
          go_loop [9, 15] (fun v j => v = .slice none 0 0 ∧ j = .int .i64 0) (fun _ _ => 0)
          case atStart => exact ⟨rfl, rfl⟩
          case round =>
            obtain ⟨rfl, rfl⟩ := hrel
            go_wp2
            go_roundw
            case rel => exact ⟨k + 1, o1, st1, [], by omega, by go_num, FX⟩
            case measure => simp [intOf]; omega
      · have hv0 : (V1 == 0) = false := by
          have h1 := HV1.out
          have h2 : 0 < st1.P.length := List.length_pos_iff.2 hc
          simp
          omega
        rcases HCS.out with hc2 | hc2 | ⟨f, hf0, hf1, hf2, hf3, hf4, hf5⟩
        · exact absurd hc2 hc
        · have hF0 : decide (0 < F) = false := by
            have h1 := HV1.out
            have h2 := HNP.out
            rw [hc2] at h1
            simp; omega
          have FX : Hid (Flx w w5 o0.p ns (k + 1) o1 st1 (.slice sa nz sc) Z) := ⟨FL.out, (fun y hy => by rw [hc2] at hy; exact hpl.out.sub y hy), by have := HP3.out; have := hpl.out.P; omega, by omega⟩
          clear hc hc2
          by_cases h5 : x.k % 5 = 2
          · have hk2 : ((x.k : Int) % 5 == 2) = true := by simp; omega
            clear h5
            go_wp2_with (first | (go_at_call 11; refine K1.out.mono ?_; rintro e w' ⟨rfl, rfl⟩) | (go_at_call 12; refine K2.out.mono ?_; rintro e w' ⟨rfl, rfl⟩) | (go_at_call 13; refine K3.out.mono ?_; rintro e w' ⟨rfl, rfl⟩))
            go_loop [9, 15] (fun v j => v = .slice sa nz sc ∧ j = .int .i64 0) (fun _ _ => 0)
            case atStart => exact ⟨rfl, rfl⟩
            case round =>
              obtain ⟨rfl, rfl⟩ := hrel
              go_wp2
              go_roundw
              case rel => exact ⟨k + 1, o1, st1, Z, by omega, by go_num, FX⟩
              case measure => simp [intOf]; omega
          · have hk2 : ((x.k : Int) % 5 == 2) = false := by simp; omega
            clear h5
            go_wp2_with (first | (go_at_call 11; refine K1.out.mono ?_; rintro e w' ⟨rfl, rfl⟩) | (go_at_call 12; refine K2.out.mono ?_; rintro e w' ⟨rfl, rfl⟩) | (go_at_call 13; refine K3.out.mono ?_; rintro e w' ⟨rfl, rfl⟩))
            go_loop [9, 15] (fun v j => v = .slice sa nz sc ∧ j = .int .i64 0) (fun _ _ => 0)
            case atStart => exact ⟨rfl, rfl⟩
            case round =>
              obtain ⟨rfl, rfl⟩ := hrel
              go_wp2
              go_roundw
              case rel => exact ⟨k + 1, o1, st1, Z, by omega, by go_num, FX⟩
              case measure => simp [intOf]; omega
        · have hk2 : ((x.k : Int) % 5 == 2) = false := by simp; omega
          obtain ⟨A, hA⟩ : ∃ A : Nat, x.a = (A : Int) := ⟨x.a.toNat, by omega⟩
          have hA2 : x.a.toNat = A := by omega
          rw [hA2] at hf2 hf5
          have hFf : F = (f : Int) := by
            have h1 := HV1.out
            have h2 := HNP.out
            rw [hf2, List.length_append, Dm.news_length] at h1
            omega
          subst hFf
          have hss : st.S.length = ns := hpl.out.S
          have hf15 : f ≤ 15 := by omega
          have hA40 : A + f ≤ 40 := by omega
          obtain ⟨nd, hnd⟩ : ∃ nd, nd = x.d.length := ⟨_, rfl⟩
          have hdl : 64 * f ≤ nd := by omega
          have hdu : nd ≤ 1000 := by omega
          have hs3 : (Om.B x.d).size = nd := by rw [Om.B_size, hnd]
          have HF2 := Lib.hid hf2
          have HAA := Lib.hid hA
          have HND := Lib.hid hnd
          have GG : Hid (∀ w', Below w.heap.size w w' → w'.cell? ⟨b, off + k * 5 + 1, none⟩ = some (.int .i64 (A : Int)) ∧ w'.cell? ⟨b, off + k * 5 + 3, none⟩ = some (.string (Om.B x.d))) := fun w' hb' => ⟨by rw [← HAA.out]; exact (hb'.cell (p := ⟨b, _, none⟩) HB.out).trans HX.out.c1, (hb'.cell (p := ⟨b, _, none⟩) HB.out).trans HX.out.c3⟩
          clear hc hf2 hA hA2 hnd hf1 hf3 hf4 hf5 hss
          go_wp2_with (first | (go_at_call 11; refine K1.out.mono ?_; rintro e w' ⟨rfl, rfl⟩) | (go_at_call 12; refine K2.out.mono ?_; rintro e w' ⟨rfl, rfl⟩) | (go_at_call 13; refine K3.out.mono ?_; rintro e w' ⟨rfl, rfl⟩))
          go_loopw [9, 15] (fun v j w' => ∃ t : Nat, t ≤ f ∧ j = .int .i64 (t : Int) ∧ Hid (Flu w w' o0.p ns o1 st1 v (Z ++ Dm.news A (Dm.chunks x.d) t))) (fun _ j _ => f - (intOf j).toNat)
          case atStart => exact ⟨0, Nat.zero_le _, rfl, (by rw [show Dm.news A (Dm.chunks x.d) 0 = [] from rfl, List.append_nil]; exact FL)⟩
          case round =>
            obtain ⟨t, ht, rfl, hfl⟩ := hrel
            clear FL K1 K2 K3
            by_cases htf : t < f
            · have hdt : decide (t < f) = true := by simpa using htf
              obtain ⟨ta, tc, htv⟩ := own_slice hfl.out.own
              obtain ⟨nt, hnt⟩ : ∃ nt, nt = (Z ++ Dm.news A (Dm.chunks x.d) t).length := ⟨_, rfl⟩
              rw [← hnt] at htv
              subst htv
              have hntb : nt ≤ 2000 := by rw [hnt, List.length_append, Dm.news_length]; omega
              obtain ⟨g1, g3⟩ := GG.out _ hfl.out.bel
              obtain ⟨c0, hc0⟩ : ∃ c0, c0 = (x.d.drop (64 * t)).take 64 := ⟨_, rfl⟩
              have hx0 : (Om.B x.d).extract (64 * t) (64 * t + 64) = Om.B c0 := by rw [extract_mid, hc0, Nat.add_sub_cancel_left]
              have hnews : Z ++ Dm.news A (Dm.chunks x.d) (t + 1) = (Z ++ Dm.news A (Dm.chunks x.d) t) ++ [(A + t, c0)] := by
                rw [Dm.news_succ, List.append_assoc, Dm.chunks_get _ _ (by rw [← HND.out]; omega), hc0]
              have hal : Below wr.heap.size wr (wr.alloc (.cells #[.int .i64 ((A : Int) + (t : Int)), .string (Om.B c0)] 45)).drew := ((Below.refl _ _).alloc (Nat.le_refl _) _).drew
              have hlt5 : b < wr.heap.size := Nat.lt_of_lt_of_le HB.out hfl.out.bel.size
              have g1a : (wr.alloc (.cells #[.int .i64 ((A : Int) + (t : Int)), .string (Om.B c0)] 45)).cell? ⟨b, off + k * 5 + 1, none⟩ = some (.int .i64 (A : Int)) :=
                (World.cell?_of_block (w := wr) (a := ⟨b, off + k * 5 + 1, none⟩) (Below.heap_alloc _ _ _ hlt5)).trans g1
              have g3a : (wr.alloc (.cells #[.int .i64 ((A : Int) + (t : Int)), .string (Om.B c0)] 45)).cell? ⟨b, off + k * 5 + 3, none⟩ = some (.string (Om.B x.d)) :=
                (World.cell?_of_block (w := wr) (a := ⟨b, off + k * 5 + 3, none⟩) (Below.heap_alloc _ _ _ hlt5)).trans g3
              have OWN : Hid ((wr.alloc (.cells #[.int .i64 ((A : Int) + (t : Int)), .string (Om.B c0)] 45)).drew.ownsRow w.heap.size 45 2 (.slice ta nt tc) nt (wcells (Z ++ Dm.news A (Dm.chunks x.d) t))) := by
                have := hfl.out.own
                rw [← hnt] at this
                exact own_same this fun j hj => hal.block j (by obtain ⟨cur, hcc⟩ := own_block this j hj; exact lt_of_heap hcc)
              have NEWS : Hid (∀ j u, ([.int .i64 ((A : Int) + (t : Int)), .string (Om.B c0)] : List Value)[j]? = some u → (wr.alloc (.cells #[.int .i64 ((A : Int) + (t : Int)), .string (Om.B c0)] 45)).drew.cell? ((⟨wr.heap.size, 0, none⟩ : Addr).add j) = some u) :=
                World.news_of_block (cs := #[.int .i64 ((A : Int) + (t : Int)), .string (Om.B c0)]) (show (wr.alloc _).heap[wr.heap.size]? = _ from heap_alloc_new _ _)
              have ONE : Hid (∀ u ∈ ([.int .i64 ((A : Int) + (t : Int)), .string (Om.B c0)] : List Value), u.oneCell' = true) := by
                intro u hu
                rcases List.mem_cons.1 hu with rfl | hu
                · rfl
                · rw [List.mem_singleton.1 hu]; rfl
              have d0 : (0 : Int) ≤ 64 * (t : Int) := by omega
              have d1 : (0 : Int) ≤ 64 * (t : Int) + 64 := by omega
              have d2 : 64 * (t : Int) + 64 ≤ (nd : Int) := by omega
              have d3 : 64 * (t : Int) ≤ 64 * (t : Int) + 64 := by omega
              have d4 : (64 * (t : Int)).toNat = 64 * t := by omega
              have d5 : (64 * (t : Int) + 64).toNat = 64 * t + 64 := by omega
              have hki2 : IntKind.i64.wrap (64 * (t : Int) + 64) = 64 * (t : Int) + 64 := by rw [IntWalk.i64_in _ (by omega)]
              have hki : IntKind.i64.wrap (64 * (t : Int)) = 64 * (t : Int) := by rw [IntWalk.i64_in _ (by omega)]
              have hks : IntKind.i64.wrap ((A : Int) + (t : Int)) = (A : Int) + (t : Int) := by rw [IntWalk.i64_in _ (by omega)]
              have hbase : w.heap.size ≤ wr.heap.size + 1 := Nat.le_succ_of_le hfl.out.bel.size
              have HNT := Lib.hid hnt
              have HNEW := Lib.hid hnews
              clear hnt hnews hal hc0
              go_wp2
              go_region_law (refine step_append_lies _ rfl (.tmp 104) (.tmp 124) 35 rfl w.heap.size 45 i0 _ 2 24 Try.underlying35 hi hz0 hz1 hz2 rfl (by decide) (.slice ta nt tc) nt (wcells (Z ++ Dm.news A (Dm.chunks x.d) t)) (by simp [Act.eval]) OWN.out ⟨wr.heap.size, 0, none⟩ 1 1 [.int .i64 ((A : Int) + (t : Int)), .string (Om.B c0)] (by simp [Act.eval]) rfl NEWS.out ONE.out (by omega) (by unfold maxLen; omega) (by omega) (by simpa using hbase) (wr.heap.size + 1) (by simp) ?_; intro g cap w7 hown7 hg7 hat7 hlt7; have APP := Lib.hid (hfl.out.app HNT.out hown7 hg7); clear hown7 hg7 hat7 hlt7)
              all_goals
                go_wp2
                go_roundw
                case rel => exact ⟨t + 1, by omega, by go_num, (by rw [HNEW.out]; exact APP)⟩
                case measure => simp [intOf]; omega
            · obtain rfl : t = f := by omega
              have hdt : decide (t < t) = false := by simp
              have FX : Hid (Flx w wr o0.p ns (k + 1) o1 st1 _ (Z ++ Dm.news A (Dm.chunks x.d) t)) := ⟨hfl.out, (fun y hy => by
                rw [HF2.out] at hy
                rcases List.mem_append.1 hy with e | e
                · exact List.mem_append.2 (.inl (hpl.out.sub y e))
                · exact List.mem_append.2 (.inr e)), by have := HP3.out; have := hpl.out.P; omega, by rw [List.length_append, Dm.news_length]; omega⟩
              go_wp2
              go_roundw
              case rel => exact ⟨k + 1, o1, st1, _, by omega, by go_num, FX⟩
              case measure => simp [intOf]; omega
    · obtain rfl : k = m := by omega
      have hd2 : decide (k < k) = false := by simp
      have hPm := hpl.out.P
      have hZm := hpl.out.Zl
      have hnzb : nz ≤ 900 := by rw [HNZ.out]; omega
      have c3 := bytes_any hpl.out.dk
      have c9 := C9.out wr o st hpl.out.dk (by omega) ((HKK.out.fr (Fr.of_low hpl.out.bel) (fun _ _ h => h)).mono fun j _ hj => hpl.out.ofp j hj)
      rw [hpl.out.op] at c3 c9
      obtain ⟨X, hX⟩ : ∃ X, X = st.S.flatten := ⟨_, rfl⟩
      rw [← hX] at c3
      have K3 := Lib.hid c3
      have K9 := Lib.hid c9
      have HX := Lib.hid hX
      clear c3 c9 hX C9
      go_wp2_with fail
      refine K3.out.mono ?_
      rintro e w' ⟨rfl, rfl⟩
      go_wp2_with fail
      refine K9.out.mono ?_
      rintro e w2 ⟨rfl, o2, hd3, hs3⟩
      have hp2 := hs3.p.trans hpl.out.op
      have D2 := Lib.hid hd3
      have S2 := Lib.hid hs3
      have hbel2 := hpl.out.bel.trans (hs3.fr.below hpl.out.bel.size hpl.out.ofp)
      have OWN2 := Lib.hid (own_same hpl.out.own fun j hj => hs3.fr.block j (by obtain ⟨cur, hcc⟩ := own_block hpl.out.own j hj; exact lt_of_heap hcc) (own_apart hpl.out.dk hpl.out.own j hj))
      have B2 := Lib.hid hbel2
      clear hd3 hs3 K3 K9 hbel2
      have c3 := bytes_any D2.out
      have c5 := sectors_any D2.out
      rw [hp2] at c3 c5
      rw [show (Dm.restart st ks).S.length = ns from (Dm.settle_length _ _ _).trans hpl.out.S] at c5
      obtain ⟨Y, hY⟩ : ∃ Y, Y = (Dm.restart st ks).S.flatten := ⟨_, rfl⟩
      rw [← hY] at c3
      have K3 := Lib.hid c3
      have K5 := Lib.hid c5
      have HY := Lib.hid hY
      have HP2 := Lib.hid hp2
      clear c3 c5 hY hp2
      go_wp2_with fail
      refine K3.out.mono ?_
      rintro e w' ⟨rfl, rfl⟩
      clear K3
      obtain ⟨N, hN⟩ : ∃ N, N = 64 * ns := ⟨_, rfl⟩
      have hNX : (Om.B X).size = N := by rw [Om.B_size, HX.out, Dm.flat_length hpl.out.dk.ok.sectors, hpl.out.S, hN]
      have hNY : (Om.B Y).size = N := by rw [Om.B_size, HY.out, Dm.flat_length D2.out.ok.sectors, show (Dm.restart st ks).S.length = ns from (Dm.settle_length _ _ _).trans hpl.out.S, hN]
      have hNb : N ≤ 2560 := by omega
      have HNN := Lib.hid hN
      clear hN
      go_wp2
      go_loop [18] (fun i => ∃ q : Nat, q ≤ ns ∧ i = .int .i64 (q : Int)) (fun i => ns - (intOf i).toNat)
      case atStart => exact ⟨0, Nat.zero_le _, rfl⟩
      case round =>
        obtain ⟨q, hq, rfl⟩ := hrel
        by_cases hqn : q < ns
        · have hdq : decide (q < ns) = true := by simpa using hqn
          obtain ⟨Xq, hXq⟩ : ∃ Xq, Xq = st.S.getD q [] := ⟨_, rfl⟩
          obtain ⟨Yq, hYq⟩ : ∃ Yq, Yq = (Dm.restart st ks).S.getD q [] := ⟨_, rfl⟩
          have hxX : (Om.B X).extract (64 * q) (64 * q + 64) = Om.B Xq := by
            rw [extract_mid, HX.out, Nat.add_sub_cancel_left, Dm.flat_get hpl.out.dk.ok.sectors q (by rw [hpl.out.S]; exact hqn), hXq]
          have hxY : (Om.B Y).extract (64 * q) (64 * q + 64) = Om.B Yq := by
            rw [extract_mid, HY.out, Nat.add_sub_cancel_left, Dm.flat_get D2.out.ok.sectors q (by rw [show (Dm.restart st ks).S.length = ns from (Dm.settle_length _ _ _).trans hpl.out.S]; exact hqn), hYq]
          have hend : fnd Z q Yq (decide (Yq = Xq)) Z.length = true := by
            refine fnd_end ?_
            rcases Dm.settle_one (S := st.S) (P := st.P) ks (fun y hy => (hpl.out.dk.ok.writes y hy).1) q with e | ⟨y, hy, he⟩
            · exact .inl (by rw [hYq, hXq]; exact e)
            · refine .inr ?_
              rw [hYq]
              have := hpl.out.sub y hy
              rw [he] at this
              exact this
          have hqN : 64 * q + 64 ≤ N := by have := HNN.out; omega
          have d0 : (0 : Int) ≤ 64 * (q : Int) := by omega
          have d1 : (0 : Int) ≤ 64 * (q : Int) + 64 := by omega
          have d2 : 64 * (q : Int) + 64 ≤ (N : Int) := by omega
          have d3 : 64 * (q : Int) ≤ 64 * (q : Int) + 64 := by omega
          have d4 : (64 * (q : Int)).toNat = 64 * q := by omega
          have d5 : (64 * (q : Int) + 64).toNat = 64 * q + 64 := by omega
          have hki2 : IntKind.i64.wrap (64 * (q : Int) + 64) = 64 * (q : Int) + 64 := by rw [IntWalk.i64_in _ (by omega)]
          have hki : IntKind.i64.wrap (64 * (q : Int)) = 64 * (q : Int) := by rw [IntWalk.i64_in _ (by omega)]
          have HEND := Lib.hid hend
          clear hXq hYq hend
          go_wp2_with fail
          refine K5.out.mono ?_
          rintro e w' ⟨rfl, rfl⟩
          by_cases hxy : Yq = Xq
          · have hxx := hxy
            have hend : fnd Z q Yq true nz = true := by have := HEND.out; rw [decide_eq_true hxy, ← HNZ.out] at this; exact this
            have HEN := Lib.hid hend
            clear hend HEND
            subst hxy
            clear hxx
            go_wp2
            go_loop [20, 21] (fun v j => ∃ t : Nat, t ≤ nz ∧ j = .int .i64 (t : Int) ∧ v = .bool (fnd Z q Yq true t)) (fun _ j => nz - (intOf j).toNat)
            case atStart => exact ⟨0, Nat.zero_le _, rfl, (by rw [fnd_zero])⟩
            case round =>
              obtain ⟨t, ht, rfl, rfl⟩ := hrel
              by_cases htz : t < nz
              · have hdt : decide (t < nz) = true := by simpa using htz
                have htZ : t < Z.length := by rw [← HNZ.out]; exact htz
                obtain ⟨g, rfl, e1, e2⟩ := seen_pair OWN2.out htZ
                have hfs := fnd_succ htZ q Yq true
                obtain ⟨z, hz⟩ : ∃ z, z = Z[t] := ⟨_, rfl⟩
                rw [← hz] at hfs e1 e2
                clear hz htZ
                cases hft : fnd Z q Yq true t with
                | true =>
                  rw [hft, Bool.true_or] at hfs
                  have HFS := Lib.hid hfs
                  clear hfs hft
                  go_wp2
                  go_round
                  case rel => exact ⟨t + 1, by omega, by go_num, (by rw [HFS.out])⟩
                  case measure => simp [intOf]; omega
                | false =>
                  rw [hft, Bool.false_or] at hfs
                  by_cases hzq : z.1 = q
                  · have hzq' : ((z.1 : Int) == (q : Int)) = true := by simp [hzq]
                    by_cases hzy : z.2 = Yq
                    · have HFS : Hid (fnd Z q Yq true (t + 1) = true) := by show _ = _; rw [hfs]; simp [hzq, hzy]
                      rw [hzy] at e2
                      clear hfs hft hzq hzy
                      go_wp2
                      go_round
                      case rel => exact ⟨t + 1, by omega, by go_num, (by rw [HFS.out])⟩
                      case measure => simp [intOf]; omega
                    · have HFS : Hid (fnd Z q Yq true (t + 1) = false) := by show _ = _; rw [hfs]; simp [hzy]
                      have hnz2 := B_ne hzy
                      clear hfs hft hzq hzy
                      go_wp2
                      go_round
                      case rel => exact ⟨t + 1, by omega, by go_num, (by rw [HFS.out])⟩
                      case measure => simp [intOf]; omega
                  · have hzq' : ((z.1 : Int) == (q : Int)) = false := by simp; omega
                    have HFS : Hid (fnd Z q Yq true (t + 1) = false) := by show _ = _; rw [hfs]; simp [hzq]
                    clear hfs hft hzq
                    go_wp2
                    go_round
                    case rel => exact ⟨t + 1, by omega, by go_num, (by rw [HFS.out])⟩
                    case measure => simp [intOf]; omega
              · obtain rfl : t = nz := by omega
                have hdt : decide (t < t) = false := by simp
                have hen := HEN.out
                go_wp2
                go_round
                case rel => exact ⟨q + 1, by omega, by go_num⟩
                case measure => simp [intOf]; omega
          · have hne := B_ne hxy
            have hend : fnd Z q Yq false nz = true := by have := HEND.out; rw [decide_eq_false hxy, ← HNZ.out] at this; exact this
            have HEN := Lib.hid hend
            clear hend HEND
            go_wp2
            go_loop [20, 21] (fun v j => ∃ t : Nat, t ≤ nz ∧ j = .int .i64 (t : Int) ∧ v = .bool (fnd Z q Yq false t)) (fun _ j => nz - (intOf j).toNat)
            case atStart => exact ⟨0, Nat.zero_le _, rfl, (by rw [fnd_zero])⟩
            case round =>
              obtain ⟨t, ht, rfl, rfl⟩ := hrel
              by_cases htz : t < nz
              · have hdt : decide (t < nz) = true := by simpa using htz
                have htZ : t < Z.length := by rw [← HNZ.out]; exact htz
                obtain ⟨g, rfl, e1, e2⟩ := seen_pair OWN2.out htZ
                have hfs := fnd_succ htZ q Yq false
                obtain ⟨z, hz⟩ : ∃ z, z = Z[t] := ⟨_, rfl⟩
                rw [← hz] at hfs e1 e2
                clear hz htZ
                cases hft : fnd Z q Yq false t with
                | true =>
                  rw [hft, Bool.true_or] at hfs
                  have HFS := Lib.hid hfs
                  clear hfs hft
                  go_wp2
                  go_round
                  case rel => exact ⟨t + 1, by omega, by go_num, (by rw [HFS.out])⟩
                  case measure => simp [intOf]; omega
                | false =>
                  rw [hft, Bool.false_or] at hfs
                  by_cases hzq : z.1 = q
                  · have hzq' : ((z.1 : Int) == (q : Int)) = true := by simp [hzq]
                    by_cases hzy : z.2 = Yq
                    · have HFS : Hid (fnd Z q Yq false (t + 1) = true) := by show _ = _; rw [hfs]; simp [hzq, hzy]
                      rw [hzy] at e2
                      clear hfs hft hzq hzy
                      go_wp2
                      go_round
                      case rel => exact ⟨t + 1, by omega, by go_num, (by rw [HFS.out])⟩
                      case measure => simp [intOf]; omega
                    · have HFS : Hid (fnd Z q Yq false (t + 1) = false) := by show _ = _; rw [hfs]; simp [hzy]
                      have hnz2 := B_ne hzy
                      clear hfs hft hzq hzy
                      go_wp2
                      go_round
                      case rel => exact ⟨t + 1, by omega, by go_num, (by rw [HFS.out])⟩
                      case measure => simp [intOf]; omega
                  · have hzq' : ((z.1 : Int) == (q : Int)) = false := by simp; omega
                    have HFS : Hid (fnd Z q Yq false (t + 1) = false) := by show _ = _; rw [hfs]; simp [hzq]
                    clear hfs hft hzq
                    go_wp2
                    go_round
                    case rel => exact ⟨t + 1, by omega, by go_num, (by rw [HFS.out])⟩
                    case measure => simp [intOf]; omega
              · obtain rfl : t = nz := by omega
                have hdt : decide (t < t) = false := by simp
                have hen := HEN.out
                go_wp2
                go_round
                case rel => exact ⟨q + 1, by omega, by go_num⟩
                case measure => simp [intOf]; omega
        · have hdq : decide (q < ns) = false := by simpa using hqn
          go_wp2_with fail
          refine K5.out.mono ?_
          rintro e w' ⟨rfl, rfl⟩
          go_wp2_with fail
          refine (AL.out _).mono ?_
          rintro e w3 ⟨rfl, hb3⟩
          have D3 := Lib.hid (D2.out.below hb3)
          have B3 := Lib.hid (B2.out.trans (hb3.mono B2.out.size))
          have c1 := pending_any D3.out
          have c2 := dead_any D3.out
          rw [HP2.out] at c1 c2
          have K1 : Hid (Calls Try.prog 11 #[.pointer (some ⟨o0.p, 0, none⟩)] w3 fun e w' => e = .returned (.int .i64 0) ∧ w3 = w') := c1
          have K2 : Hid (Calls Try.prog 12 #[.pointer (some ⟨o0.p, 0, none⟩)] w3 fun e w' => e = .returned (.bool false) ∧ w3 = w') := c2
          clear c1 c2 hb3
          go_wp2_with (first | (go_at_call 11; refine K1.out.mono ?_; rintro e w' ⟨rfl, rfl⟩) | (go_at_call 12; refine K2.out.mono ?_; rintro e w' ⟨rfl, rfl⟩))
          go_ret
          exact ⟨rfl, B3.out⟩
end Dsk
end Go.Proofs.Ytodihhpeggoodaa
