/- The walks of the statements HeadEncodes and HeadDecodes. -/
import Derived.Test.YtpocafiihdnnlaaHeadAlive
import Derived.Test.YtpocafiihdnnlaaHeadRef
namespace Go.Proofs.Ytpocafiihdnnlaa
open Go.RowKit
set_option linter.unusedVariables false

theorem hencodes_any (g : Nat) (c p : Int) (b : Bool) (w : World) (hg : g < 4294967296) :
    Calls Try.prog 3 #[.agg #[.int .u32 (g : Int), .int .i64 c, .int .i64 p, .bool b]] w fun e w' => e = .returned (.bool true) ∧ Below w.heap.size w w' := by
  have C1 := Lib.hid (fun w1 => henc_any g c p b w1 hg)
  have C2 := Lib.hid (fun w1 => rhenc_any g c p b w1 hg)
  have R1 := Lib.hid (fun w1 => hright_any g c p b w1)
  have R2 := Lib.hid (fun w1 => rhright_any g c p b w1)
  have AL := Lib.hid halive_any
  obtain ⟨S, hS⟩ : ∃ S, S = Hm.encS g c p b := ⟨_, rfl⟩
  obtain ⟨E, hE⟩ : ∃ E, E = Hm.encE g c p := ⟨_, rfl⟩
  obtain ⟨ok, hok⟩ : ∃ ok, ok = Hm.okH g c p := ⟨_, rfl⟩
  rw [← hS, ← hE] at C1 C2
  rw [← hok] at R1 R2
  unfold Hv at C1 C2 R1 R2
  have hb0 : Below w.heap.size w (w.alloc (.cells #[.int .u32 (g : Int), .int .i64 c, .int .i64 p, .bool b] 24)) := (Below.refl _ _).alloc (Nat.le_refl _) _
  have HB0 := Lib.hid hb0
  have BX0 := Lib.hid (bx_alloc w g c p b 24)
  obtain ⟨lt0, a0, a1, a2, a3⟩ := BX0.out
  clear hS hE hok hb0
  go_enter Try.func3, Try.ntmps3
  go_wp2_with fail
  refine (C1.out _).mono ?_
  rintro e w1 ⟨rfl, hb1⟩
  have HB1 := Lib.hid (HB0.out.trans (hb1.mono HB0.out.size))
  have BX1 := Lib.hid (BX0.out.next hb1)
  clear hb1 lt0 a0 a1 a2 a3
  obtain ⟨lt1, a0, a1, a2, a3⟩ := BX1.out
  go_wp2_with fail
  refine (C2.out _).mono ?_
  rintro e w2 ⟨rfl, hb2⟩
  have HB2 := Lib.hid (HB1.out.trans (hb2.mono HB1.out.size))
  have BX2 := Lib.hid (BX1.out.next hb2)
  clear hb2 lt1 a0 a1 a2 a3
  obtain ⟨lt2, a0, a1, a2, a3⟩ := BX2.out
  go_wp2_with fail
  go_region_held3 (fun w' => w'.cell? ⟨w.heap.size, 0, none⟩ = some (.int .u32 (g : Int)) ∧ w'.cell? ⟨w.heap.size, 1, none⟩ = some (.int .i64 c) ∧ w'.cell? ⟨w.heap.size, 2, none⟩ = some (.int .i64 p) ∧ w'.cell? ⟨w.heap.size, 3, none⟩ = some (.bool b))
    (first | go_keep | (refine ⟨?_, ?_, ?_, ?_⟩ <;> assumption) | (exact ⟨(BX.out.cell (p := ⟨w.heap.size, 0, none⟩) lt2).trans a0, (BX.out.cell (p := ⟨w.heap.size, 1, none⟩) lt2).trans a1, (BX.out.cell (p := ⟨w.heap.size, 2, none⟩) lt2).trans a2, (BX.out.cell (p := ⟨w.heap.size, 3, none⟩) lt2).trans a3⟩))
    (first | (go_at_call 8; refine (AL.out _).mono ?_; rintro e v1 ⟨rfl, hb⟩; have BX : Hid (Below w2.heap.size w2 v1) := (Below.refl _ _).drew.trans hb; clear hb) | (go_at_call 9; refine (R1.out _).mono ?_; rintro e v2 ⟨rfl, hb⟩; have BY := BX; have BX : Hid (Below w2.heap.size w2 v2) := BY.out.trans (hb.mono BY.out.size); clear hb) | (go_at_call 10; refine (R2.out _).mono ?_; rintro e v3 ⟨rfl, hb⟩; have BY := BX; have BX : Hid (Below w2.heap.size w2 v3) := BY.out.trans (hb.mono BY.out.size); clear hb))
  all_goals
    go_wp2
    go_ret
    exact ⟨rfl, HB2.out.trans (BX.out.mono HB2.out.size)⟩

theorem hdecodes_any (s : List UInt8) (w : World) :
    Calls Try.prog 4 #[.string (Om.B s)] w fun e w' => e = .returned (.bool true) ∧ Below w.heap.size w w' := by
  by_cases h200 : 200 < s.length
  · have d1 : decide (200 < ((Om.B s).size : Int)) = true := by rw [Om.B_size]; simp; omega
    go_enter Try.func4, Try.ntmps4
    go_wp2_with fail
    refine (halive_any _).mono ?_
    rintro e w1 ⟨rfl, hb1⟩
    have HB := Lib.hid hb1
    clear hb1
    go_wp2
    go_ret
    exact ⟨rfl, HB.out⟩
  · have d1 : decide (200 < ((Om.B s).size : Int)) = false := by rw [Om.B_size]; simp; omega
    have C1 := Lib.hid (fun w1 => hdec_any s w1)
    have C2 := Lib.hid (fun w1 => rhdec_any s w1)
    have AL := Lib.hid halive_any
    unfold HDec decV at C1 C2
    obtain ⟨G, hG⟩ : ∃ x, x = Hm.decG s := ⟨_, rfl⟩
    obtain ⟨C, hC⟩ : ∃ x, x = Hm.decC s := ⟨_, rfl⟩
    obtain ⟨P, hP⟩ : ∃ x, x = Hm.decP s := ⟨_, rfl⟩
    obtain ⟨B, hB⟩ : ∃ x, x = Hm.decB s := ⟨_, rfl⟩
    obtain ⟨E, hE⟩ : ∃ x, x = Hm.decE s := ⟨_, rfl⟩
    rw [← hG, ← hC, ← hP, ← hB, ← hE] at C1 C2
    unfold Hv at C1 C2
    clear h200 hG hC hP hB hE
    go_enter Try.func4, Try.ntmps4
    go_wp2_with fail
    refine (C1.out _).mono ?_
    rintro e w1 ⟨rfl, hb1⟩
    have hn1 : Below w1.heap.size w1 (w1.alloc (.cells #[.int .u32 (G : Int), .int .i64 (C : Int), .int .i64 (P : Int), .bool B] 24)) := (Below.refl _ _).alloc (Nat.le_refl _) _
    have HB1 := Lib.hid (hb1.trans (hn1.mono hb1.size))
    have BX1 := Lib.hid (bx_alloc w1 G C P B 24)
    clear hb1 hn1
    go_wp2_with fail
    refine (C2.out _).mono ?_
    rintro e w2 ⟨rfl, hb2⟩
    have BX2 := Lib.hid (BX1.out.next hb2)
    have hb2' := HB1.out.trans (hb2.mono HB1.out.size)
    have hn2 : Below w2.heap.size w2 (w2.alloc (.cells #[.int .u32 (G : Int), .int .i64 (C : Int), .int .i64 (P : Int), .bool B] 24)) := (Below.refl _ _).alloc (Nat.le_refl _) _
    have HB2 := Lib.hid (hb2'.trans (hn2.mono hb2'.size))
    have BX3 := Lib.hid (BX2.out.next hn2)
    have BY3 := Lib.hid (bx_alloc w2 G C P B 24)
    clear hb2 hn2 hb2'
    go_wp2_with fail
    refine (AL.out _).mono ?_
    rintro e w3 ⟨rfl, hb3⟩
    have HB3 := Lib.hid (HB2.out.trans (hb3.mono HB2.out.size))
    obtain ⟨_, a0, a1, a2, a3⟩ := BX3.out.next hb3
    obtain ⟨_, b0, b1, b2, b3⟩ := BY3.out.next hb3
    clear hb3
    go_wp2
    go_ret
    exact ⟨rfl, HB3.out⟩
end Go.Proofs.Ytpocafiihdnnlaa
