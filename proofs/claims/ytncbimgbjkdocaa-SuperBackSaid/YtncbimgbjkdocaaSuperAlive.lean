/- The live question of layer 9. -/
import Derived.Test.YtncbimgbjkdocaaSuperDec
namespace Go.Proofs.Ytncbimgbjkdocaa
open Go.RowKit
set_option maxRecDepth 100000
set_option linter.unusedVariables false

theorem ulive_enc (w : World) : Calls Try.prog 6 #[.agg #[.int .i64 300, .int .i64 40, .int .i64 4]] w fun e w' => e = .returned (.tuple #[.string (Om.B (Um.sector 300 40 4)), .int .i64 0]) ∧ Below w.heap.size w w' := uenc_right 300 40 4 w (by decide)
theorem ulive_dec (w : World) : Calls Try.prog 11 #[.string (Om.B (Um.sector 300 40 4))] w fun e w' => e = .returned (.tuple #[.agg #[.int .i64 300, .int .i64 40, .int .i64 4], .int .i64 0]) ∧ Below w.heap.size w w' := udec_back 300 40 4 w (by decide)
theorem ulive_no (w : World) : Calls Try.prog 6 #[.agg #[.int .i64 56, .int .i64 40, .int .i64 4]] w fun e w' => e = .returned (.tuple #[.string (Om.B []), .int .i64 1]) ∧ Below w.heap.size w w' := by
  have := uenc_any 56 40 4 w
  rw [(Um.enc_no (a := 56) (n := 40) (g := 4) (by decide)).1, (Um.enc_no (a := 56) (n := 40) (g := 4) (by decide)).2] at this
  exact this
theorem ulive_take : (Um.sector 300 40 4).take 6 = [79, 65, 75, 49, 44, 1] := by
  have h : (Um.sector 300 40 4).take 6 = ((Um.sector 300 40 4).take 60).take 6 := by rw [List.take_take]; rfl
  have h2 : (Um.sector 300 40 4).take 60 = Sc.front Um.ts Um.zs (Um.nums 300 40 4) ++ List.replicate (60 - (Sc.front Um.ts Um.zs (Um.nums 300 40 4)).length) 0 := Sc.sector_take Um.lay _
  rw [h, h2]
  decide
theorem ulive_facts : ∃ s : ByteArray, s = Om.B (Um.sector 300 40 4) ∧ s.size = 64 ∧ s.extract 0 6 = Om.B [79, 65, 75, 49, 44, 1] := by
  refine ⟨_, rfl, Um.sector_len 300 40 4, ?_⟩
  rw [Om.extract_front, Om.L_B, ulive_take]

theorem ulive_cells {W : World} {k : Nat} (h : Ux W k 300 40 4) : W.cell? ⟨k, 0, none⟩ = some (.int .i64 300) ∧ W.cell? ⟨k, 1, none⟩ = some (.int .i64 40) ∧ W.cell? ⟨k, 2, none⟩ = some (.int .i64 4) := ⟨h.c0, h.c1, h.c2⟩
theorem ualive_any (w : World) : Calls Try.prog 8 #[] w fun e w' => e = .returned (.bool true) ∧ Below w.heap.size w w' := by
  obtain ⟨S, hS, hsz, hh⟩ := ulive_facts
  have C1 := Lib.hid ulive_enc
  have C2 := Lib.hid ulive_dec
  have C3 := Lib.hid ulive_no
  rw [← hS] at C1 C2
  have he : (Om.B [79, 65, 75, 49, 44, 1]).toList = [79, 65, 75, 49, 44, 1] := by rw [Lib.toList_data]; rfl
  have h64 : ((S.size : Int) == 64) = true := by rw [hsz]; rfl
  have hb0 : Below w.heap.size w (w.alloc (.cells #[.int .i64 300, .int .i64 40, .int .i64 4] 23)) := (Below.refl _ _).alloc (Nat.le_refl _) _
  have HB0 := Lib.hid hb0
  have BX0 := Lib.hid (ux_alloc w 300 40 4 23)
  obtain ⟨a0, a1, a2⟩ := ulive_cells BX0.out
  clear hS hb0
  go_enter Try.func8, Try.ntmps8
  go_wp2_with fail
  refine (C1.out _).mono ?_
  rintro e w1 ⟨rfl, hb1⟩
  have HB1 := Lib.hid (HB0.out.trans (hb1.mono HB0.out.size))
  have BX1 := Lib.hid (BX0.out.next hb1)
  clear hb1 a0 a1 a2
  go_wp2_with fail
  refine (C2.out _).mono ?_
  rintro e w2 ⟨rfl, hb2⟩
  have HB2 := Lib.hid (HB1.out.trans (hb2.mono HB1.out.size))
  have BX2 := Lib.hid (BX1.out.next hb2)
  clear hb2
  go_wp2_with fail
  have hb3 : Below w2.heap.size w2 (w2.alloc (.cells #[.int .i64 300, .int .i64 40, .int .i64 4] 23)) := (Below.refl _ _).alloc (Nat.le_refl _) _
  have BX3 := Lib.hid (BX2.out.next hb3)
  have BY3 := Lib.hid (ux_alloc w2 300 40 4 23)
  have HB3 := Lib.hid (HB2.out.trans (hb3.mono HB2.out.size))
  clear hb3
  refine (C3.out _).mono ?_
  rintro e w4 ⟨rfl, hb4⟩
  have HB4 := Lib.hid (HB3.out.trans (hb4.mono HB3.out.size))
  obtain ⟨b0, b1, b2⟩ := ulive_cells (BX3.out.next hb4)
  obtain ⟨d0, d1, d2⟩ := ulive_cells (BY3.out.next hb4)
  clear hb4
  go_wp2
  go_ret
  exact ⟨rfl, HB4.out⟩
end Go.Proofs.Ytncbimgbjkdocaa
