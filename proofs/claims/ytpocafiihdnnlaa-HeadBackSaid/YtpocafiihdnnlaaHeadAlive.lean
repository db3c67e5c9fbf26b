/- The live question of layer 7; a head there and back. -/
import Derived.Test.YtpocafiihdnnlaaHeadDec
namespace Go.Proofs.Ytpocafiihdnnlaa
open Go.RowKit
set_option linter.unusedVariables false

/-- A head's sector is decoded to it. -/
theorem hdec_back (g : Nat) (c p : Int) (b : Bool) (w : World) (hg : g < 4294967296) (h : Hm.okH g c p = true) :
    Calls Try.prog 11 #[.string (Om.B (Hm.sector g c p b))] w fun e w' => e = .returned (.tuple #[Hv g c p b, .int .i64 0]) ∧ Below w.heap.size w w' :=
  (hdec_any (Hm.sector g c p b) w).mono fun e w' ⟨he, hb⟩ => by
    obtain ⟨h1, h2, h3, h4, h5⟩ := Hm.back g c p b hg h
    unfold decV at he
    rw [h1, h2, h3, h4, h5] at he
    exact ⟨he, hb⟩
theorem henc_right (g : Nat) (c p : Int) (b : Bool) (w : World) (hg : g < 4294967296) (h : Hm.okH g c p = true) :
    Calls Try.prog 6 #[Hv g c p b] w fun e w' => e = .returned (.tuple #[.string (Om.B (Hm.sector g c p b)), .int .i64 0]) ∧ Below w.heap.size w w' := by
  have := henc_any g c p b w hg
  rw [(Hm.enc_ok b h).1, (Hm.enc_ok b h).2] at this
  exact this
theorem live_enc (w : World) : Calls Try.prog 6 #[.agg #[.int .u32 3, .int .i64 8, .int .i64 40, .bool true]] w fun e w' => e = .returned (.tuple #[.string (Om.B (Hm.sector 3 8 40 true)), .int .i64 0]) ∧ Below w.heap.size w w' := henc_right 3 8 40 true w (by omega) (by decide)
theorem live_dec (w : World) : Calls Try.prog 11 #[.string (Om.B (Hm.sector 3 8 40 true))] w fun e w' => e = .returned (.tuple #[.agg #[.int .u32 3, .int .i64 8, .int .i64 40, .bool true], .int .i64 0]) ∧ Below w.heap.size w w' := hdec_back 3 8 40 true w (by omega) (by decide)
theorem live_cut (w : World) : Calls Try.prog 11 #[.string ⟨#[120]⟩] w fun e w' => e = .returned (.tuple #[.agg #[.int .u32 0, .int .i64 0, .int .i64 0, .bool false], .int .i64 21]) ∧ Below w.heap.size w w' :=
  (hdec_any [120] w).mono fun e w' ⟨he, hb⟩ => by
    obtain ⟨h1, h2, h3, h4, h5⟩ := Hm.dec_off [120] 21 (Sc.op_cut (by decide)) (by decide)
    unfold decV at he
    rw [h1, h2, h3, h4, h5] at he
    exact ⟨he, hb⟩
theorem live_take : (Hm.sector 3 8 40 true).take 15 = [79, 65, 75, 72, 3, 0, 0, 0, 8, 0, 40, 0, 0, 0, 1] := by
  have h : (Hm.sector 3 8 40 true).take 15 = ((Hm.sector 3 8 40 true).take 60).take 15 := by rw [List.take_take]; rfl
  have h2 : (Hm.sector 3 8 40 true).take 60 = Sc.front Hm.ts Hm.zs (Hm.nums 3 8 40 true) ++ List.replicate (60 - (Sc.front Hm.ts Hm.zs (Hm.nums 3 8 40 true)).length) 0 := Sc.sector_take Hm.lay _
  rw [h, h2]
  decide
theorem live_facts : ∃ (s : ByteArray) (h14 : 14 < s.size), s = Om.B (Hm.sector 3 8 40 true) ∧ s.size = 64 ∧ s.extract 0 8 = Om.B [79, 65, 75, 72, 3, 0, 0, 0] ∧ (s[14]'h14).toNat = 1 := by
  have hl := Hm.sector_len 3 8 40 true
  have ht := live_take
  obtain ⟨S, hS⟩ : ∃ S, S = Hm.sector 3 8 40 true := ⟨_, rfl⟩
  rw [← hS] at hl ht
  have h14 : 14 < S.length := by omega
  refine ⟨Om.B S, h14, by rw [hS], hl, ?_, ?_⟩
  · rw [Om.extract_front, Om.L_B]
    have : S.take 8 = (S.take 15).take 8 := by rw [List.take_take]; rfl
    rw [this, ht]
    rfl
  · have h1 : S[14]? = (S.take 15)[14]? := by rw [List.getElem?_take_of_lt (by omega)]
    rw [ht, List.getElem?_eq_getElem h14] at h1
    injection h1 with h1
    show (S[14]'h14).toNat = 1
    rw [h1]
    rfl

theorem live_cells {W : World} {k : Nat} (h : Bx W k 3 8 40 true) : W.cell? ⟨k, 0, none⟩ = some (.int .u32 3) ∧ W.cell? ⟨k, 1, none⟩ = some (.int .i64 8) ∧ W.cell? ⟨k, 2, none⟩ = some (.int .i64 40) ∧ W.cell? ⟨k, 3, none⟩ = some (.bool true) := ⟨h.c0, h.c1, h.c2, h.c3⟩
theorem halive_any (w : World) : Calls Try.prog 8 #[] w fun e w' => e = .returned (.bool true) ∧ Below w.heap.size w w' := by
  obtain ⟨S, h14, hS, hsz, hh, hx⟩ := live_facts
  have C1 := Lib.hid live_enc
  have C2 := Lib.hid live_dec
  have C3 := Lib.hid live_cut
  rw [← hS] at C1 C2
  have he : (Om.B [79, 65, 75, 72, 3, 0, 0, 0]).toList = [79, 65, 75, 72, 3, 0, 0, 0] := by rw [Lib.toList_data]; rfl
  have h64 : ((S.size : Int) == 64) = true := by rw [hsz]; rfl
  have hb0 : Below w.heap.size w (w.alloc (.cells #[.int .u32 3, .int .i64 8, .int .i64 40, .bool true] 24)) := (Below.refl _ _).alloc (Nat.le_refl _) _
  have HB0 := Lib.hid hb0
  have BX0 := Lib.hid (bx_alloc w 3 8 40 true 24)
  obtain ⟨a0, a1, a2, a3⟩ := live_cells BX0.out
  clear hS hb0
  go_enter Try.func8, Try.ntmps8
  go_wp2_with fail
  refine (C1.out _).mono ?_
  rintro e w1 ⟨rfl, hb1⟩
  have HB1 := Lib.hid (HB0.out.trans (hb1.mono HB0.out.size))
  have BX1 := Lib.hid (BX0.out.next hb1)
  clear hb1 a0 a1 a2 a3
  go_wp2_with fail
  refine (C2.out _).mono ?_
  rintro e w2 ⟨rfl, hb2⟩
  have HB2 := Lib.hid (HB1.out.trans (hb2.mono HB1.out.size))
  have BX2 := Lib.hid (BX1.out.next hb2)
  clear hb2
  go_wp2_with fail
  have hb3 : Below w2.heap.size w2 (w2.alloc (.cells #[.int .u32 3, .int .i64 8, .int .i64 40, .bool true] 24)) := (Below.refl _ _).alloc (Nat.le_refl _) _
  have BX3 := Lib.hid (BX2.out.next hb3)
  have BY3 := Lib.hid (bx_alloc w2 3 8 40 true 24)
  have HB3 := Lib.hid (HB2.out.trans (hb3.mono HB2.out.size))
  clear hb3
  refine (C3.out _).mono ?_
  rintro e w4 ⟨rfl, hb4⟩
  have BX4 := Lib.hid (BX3.out.next hb4)
  have BY4 := Lib.hid (BY3.out.next hb4)
  have HB4 := Lib.hid (HB3.out.trans (hb4.mono HB3.out.size))
  have hb5 : Below w4.heap.size w4 (w4.alloc (.cells #[.int .u32 0, .int .i64 0, .int .i64 0, .bool false] 24)) := (Below.refl _ _).alloc (Nat.le_refl _) _
  have HB5 := Lib.hid (HB4.out.trans (hb5.mono HB4.out.size))
  obtain ⟨b0, b1, b2, b3⟩ := live_cells (BX4.out.next hb5)
  obtain ⟨d0, d1, d2, d3⟩ := live_cells (BY4.out.next hb5)
  clear hb4 hb5
  go_wp2
  go_ret
  exact ⟨rfl, HB5.out⟩
end Go.Proofs.Ytpocafiihdnnlaa
