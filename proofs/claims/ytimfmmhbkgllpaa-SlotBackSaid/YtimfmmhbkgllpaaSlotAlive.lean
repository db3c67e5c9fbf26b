/- The live question of layer 8. -/
import Derived.Test.YtimfmmhbkgllpaaSlotDec
namespace Go.Proofs.Ytimfmmhbkgllpaa
open Go.RowKit
set_option maxRecDepth 100000
set_option linter.unusedVariables false

theorem slive_enc (w : World) : Calls Try.prog 6 #[.agg #[.int .i64 2, .int .i64 20, .int .i64 9, .int .u32 258]] w fun e w' => e = .returned (.tuple #[.string (Om.B (Tm.sector 2 20 9 258)), .int .i64 0]) ∧ Below w.heap.size w w' := senc_right 2 20 9 258 w (by omega) (by decide)
theorem slive_dec (w : World) : Calls Try.prog 11 #[.string (Om.B (Tm.sector 2 20 9 258))] w fun e w' => e = .returned (.tuple #[.agg #[.int .i64 2, .int .i64 20, .int .i64 9, .int .u32 258], .int .i64 0]) ∧ Below w.heap.size w w' := sdec_back 2 20 9 258 w (by omega) (by decide)
theorem slive_no (w : World) : Calls Try.prog 6 #[.agg #[.int .i64 0, .int .i64 0, .int .i64 1, .int .u32 0]] w fun e w' => e = .returned (.tuple #[.string (Om.B []), .int .i64 1]) ∧ Below w.heap.size w w' := senc_no 0 0 1 0 w (by omega) (by decide)
theorem slive_take : (Tm.sector 2 20 9 258).take 14 = [79, 65, 75, 83, 2, 20, 0, 0, 0, 9, 0, 0, 0, 2] := by
  have h : (Tm.sector 2 20 9 258).take 14 = ((Tm.sector 2 20 9 258).take 60).take 14 := by rw [List.take_take]; rfl
  have h2 : (Tm.sector 2 20 9 258).take 60 = Sc.front Tm.ts Tm.zs (Tm.nums 2 20 9 258) ++ List.replicate (60 - (Sc.front Tm.ts Tm.zs (Tm.nums 2 20 9 258)).length) 0 := Sc.sector_take Tm.lay _
  rw [h, h2]
  decide
theorem slive_facts : ∃ (s : ByteArray) (h13 : 13 < s.size), s = Om.B (Tm.sector 2 20 9 258) ∧ s.size = 64 ∧ s.extract 0 5 = Om.B [79, 65, 75, 83, 2] ∧ (s[13]'h13).toNat = 2 := by
  have hl := Tm.sector_len 2 20 9 258
  have ht := slive_take
  obtain ⟨S, hS⟩ : ∃ S, S = Tm.sector 2 20 9 258 := ⟨_, rfl⟩
  rw [← hS] at hl ht
  have h13 : 13 < S.length := by omega
  refine ⟨Om.B S, h13, by rw [hS], hl, ?_, ?_⟩
  · rw [Om.extract_front, Om.L_B]
    have : S.take 5 = (S.take 14).take 5 := by rw [List.take_take]; rfl
    rw [this, ht]
    rfl
  · have h1 : S[13]? = (S.take 14)[13]? := by rw [List.getElem?_take_of_lt (by omega)]
    rw [ht, List.getElem?_eq_getElem h13] at h1
    injection h1 with h1
    show (S[13]'h13).toNat = 2
    rw [h1]
    rfl

theorem slive_cells {W : World} {k : Nat} (h : Tx W k 2 20 9 258) : W.cell? ⟨k, 0, none⟩ = some (.int .i64 2) ∧ W.cell? ⟨k, 1, none⟩ = some (.int .i64 20) ∧ W.cell? ⟨k, 2, none⟩ = some (.int .i64 9) ∧ W.cell? ⟨k, 3, none⟩ = some (.int .u32 258) := ⟨h.c0, h.c1, h.c2, h.c3⟩
theorem salive_any (w : World) : Calls Try.prog 8 #[] w fun e w' => e = .returned (.bool true) ∧ Below w.heap.size w w' := by
  obtain ⟨S, h13, hS, hsz, hh, hx⟩ := slive_facts
  have C1 := Lib.hid slive_enc
  have C2 := Lib.hid slive_dec
  have C3 := Lib.hid slive_no
  rw [← hS] at C1 C2
  have he : (Om.B [79, 65, 75, 83, 2]).toList = [79, 65, 75, 83, 2] := by rw [Lib.toList_data]; rfl
  have h64 : ((S.size : Int) == 64) = true := by rw [hsz]; rfl
  have hb0 : Below w.heap.size w (w.alloc (.cells #[.int .i64 2, .int .i64 20, .int .i64 9, .int .u32 258] 27)) := (Below.refl _ _).alloc (Nat.le_refl _) _
  have HB0 := Lib.hid hb0
  have BX0 := Lib.hid (tx_alloc w 2 20 9 258 27)
  obtain ⟨a0, a1, a2, a3⟩ := slive_cells BX0.out
  clear hS hb0
  go_enter Try.func8, Try.ntmps8
  go_wp2_with fail
  refine (C1.out _).mono ?_
  rintro e w1 ⟨rfl, hb1⟩
  have HB1 := Lib.hid (HB0.out.trans (hb1.mono HB0.out.size))
  have BX1 := Lib.hid (BX0.out.next hb1)
  clear hb1 a0 a1 a2 a3
  go_wp2_with fail
  refine (C2.out _).mono ?_
  rintro e w2 ⟨rfl, hb2⟩
  have HB2 := Lib.hid (HB1.out.trans (hb2.mono HB1.out.size))
  have BX2 := Lib.hid (BX1.out.next hb2)
  clear hb2
  go_wp2_with fail
  have hb3 : Below w2.heap.size w2 (w2.alloc (.cells #[.int .i64 2, .int .i64 20, .int .i64 9, .int .u32 258] 27)) := (Below.refl _ _).alloc (Nat.le_refl _) _
  have BX3 := Lib.hid (BX2.out.next hb3)
  have BY3 := Lib.hid (tx_alloc w2 2 20 9 258 27)
  have HB3 := Lib.hid (HB2.out.trans (hb3.mono HB2.out.size))
  clear hb3
  refine (C3.out _).mono ?_
  rintro e w4 ⟨rfl, hb4⟩
  have HB4 := Lib.hid (HB3.out.trans (hb4.mono HB3.out.size))
  obtain ⟨b0, b1, b2, b3⟩ := slive_cells (BX3.out.next hb4)
  obtain ⟨d0, d1, d2, d3⟩ := slive_cells (BY3.out.next hb4)
  clear hb4
  go_wp2
  go_ret
  exact ⟨rfl, HB4.out⟩
end Go.Proofs.Ytimfmmhbkgllpaa
