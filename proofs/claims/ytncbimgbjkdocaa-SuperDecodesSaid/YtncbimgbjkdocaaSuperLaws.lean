/- The walks of the statements SuperEncodes and SuperDecodes. -/
import Derived.Test.YtncbimgbjkdocaaSuperAlive
import Derived.Test.YtncbimgbjkdocaaSuperRef
namespace Go.Proofs.Ytncbimgbjkdocaa
open Go.RowKit
set_option maxRecDepth 100000
set_option linter.unusedVariables false

theorem uencodes_any (a n g : Int) (w : World) :
    Calls Try.prog 3 #[.agg #[.int .i64 a, .int .i64 n, .int .i64 g]] w fun e w' => e = .returned (.bool true) ∧ Below w.heap.size w w' := by
  have C1 := Lib.hid (fun w1 => uenc_any a n g w1)
  have C2 := Lib.hid (fun w1 => ruenc_any a n g w1)
  have R1 := Lib.hid (fun w1 => uright_any a n g w1)
  have R2 := Lib.hid (fun w1 => ruright_any a n g w1)
  have AL := Lib.hid ualive_any
  obtain ⟨S, hS⟩ : ∃ S, S = Um.encS a n g := ⟨_, rfl⟩
  obtain ⟨E, hE⟩ : ∃ E, E = Um.encE a n g := ⟨_, rfl⟩
  obtain ⟨ok, hok⟩ : ∃ ok, ok = Um.okU a n g := ⟨_, rfl⟩
  rw [← hS, ← hE] at C1 C2
  rw [← hok] at R1 R2
  unfold Uv at C1 C2 R1 R2
  have hb0 : Below w.heap.size w (w.alloc (.cells #[.int .i64 a, .int .i64 n, .int .i64 g] 23)) := (Below.refl _ _).alloc (Nat.le_refl _) _
  have HB0 := Lib.hid hb0
  have BX0 := Lib.hid (ux_alloc w a n g 23)
  obtain ⟨lt0, a0, a1, a2⟩ := BX0.out
  clear hS hE hok hb0
  go_enter Try.func3, Try.ntmps3
  go_wp2_with fail
  refine (C1.out _).mono ?_
  rintro e w1 ⟨rfl, hb1⟩
  have HB1 := Lib.hid (HB0.out.trans (hb1.mono HB0.out.size))
  have BX1 := Lib.hid (BX0.out.next hb1)
  clear hb1 lt0 a0 a1 a2
  obtain ⟨lt1, a0, a1, a2⟩ := BX1.out
  go_wp2_with fail
  refine (C2.out _).mono ?_
  rintro e w2 ⟨rfl, hb2⟩
  have HB2 := Lib.hid (HB1.out.trans (hb2.mono HB1.out.size))
  have BX2 := Lib.hid (BX1.out.next hb2)
  clear hb2 lt1 a0 a1 a2
  obtain ⟨lt2, a0, a1, a2⟩ := BX2.out
  go_wp2_with fail
  go_region_held3 (fun w' => w'.cell? ⟨w.heap.size, 0, none⟩ = some (.int .i64 a) ∧ w'.cell? ⟨w.heap.size, 1, none⟩ = some (.int .i64 n) ∧ w'.cell? ⟨w.heap.size, 2, none⟩ = some (.int .i64 g))
    (first | go_keep | (refine ⟨?_, ?_, ?_⟩ <;> assumption) | (exact ⟨(BX.out.cell (p := ⟨w.heap.size, 0, none⟩) lt2).trans a0, (BX.out.cell (p := ⟨w.heap.size, 1, none⟩) lt2).trans a1, (BX.out.cell (p := ⟨w.heap.size, 2, none⟩) lt2).trans a2⟩))
    (first | (go_at_call 8; refine (AL.out _).mono ?_; rintro e v1 ⟨rfl, hb⟩; have BX : Hid (Below w2.heap.size w2 v1) := (Below.refl _ _).drew.trans hb; clear hb) | (go_at_call 9; refine (R1.out _).mono ?_; rintro e v2 ⟨rfl, hb⟩; have BY := BX; have BX : Hid (Below w2.heap.size w2 v2) := BY.out.trans (hb.mono BY.out.size); clear hb) | (go_at_call 10; refine (R2.out _).mono ?_; rintro e v3 ⟨rfl, hb⟩; have BY := BX; have BX : Hid (Below w2.heap.size w2 v3) := BY.out.trans (hb.mono BY.out.size); clear hb))
  all_goals
    go_wp2
    go_ret
    exact ⟨rfl, HB2.out.trans (BX.out.mono HB2.out.size)⟩

theorem udecodes_any (s : List UInt8) (w : World) :
    Calls Try.prog 4 #[.string (Om.B s)] w fun e w' => e = .returned (.bool true) ∧ Below w.heap.size w w' := by
  by_cases h200 : 200 < s.length
  · have d1 : decide (200 < ((Om.B s).size : Int)) = true := by rw [Om.B_size]; simp; omega
    go_enter Try.func4, Try.ntmps4
    go_wp2_with fail
    refine (ualive_any _).mono ?_
    rintro e w1 ⟨rfl, hb1⟩
    have HB := Lib.hid hb1
    clear hb1
    go_wp2
    go_ret
    exact ⟨rfl, HB.out⟩
  · have d1 : decide (200 < ((Om.B s).size : Int)) = false := by rw [Om.B_size]; simp; omega
    have C1 := Lib.hid (fun w1 => udec_any s w1)
    have C2 := Lib.hid (fun w1 => rudec_any s w1)
    have AL := Lib.hid ualive_any
    unfold UDec udecV at C1 C2
    obtain ⟨V, hV⟩ : ∃ x, x = Um.decA s := ⟨_, rfl⟩
    obtain ⟨N, hN⟩ : ∃ x, x = Um.decN s := ⟨_, rfl⟩
    obtain ⟨G, hG⟩ : ∃ x, x = Um.decG s := ⟨_, rfl⟩
    obtain ⟨E, hE⟩ : ∃ x, x = Um.decE s := ⟨_, rfl⟩
    rw [← hV, ← hN, ← hG, ← hE] at C1 C2
    unfold Uv at C1 C2
    clear h200 hV hN hG hE
    go_enter Try.func4, Try.ntmps4
    go_wp2_with fail
    refine (C1.out _).mono ?_
    rintro e w1 ⟨rfl, hb1⟩
    have hn1 : Below w1.heap.size w1 (w1.alloc (.cells #[.int .i64 (V : Int), .int .i64 (N : Int), .int .i64 (G : Int)] 23)) := (Below.refl _ _).alloc (Nat.le_refl _) _
    have HB1 := Lib.hid (hb1.trans (hn1.mono hb1.size))
    have BX1 := Lib.hid (ux_alloc w1 V N G 23)
    clear hb1 hn1
    go_wp2_with fail
    refine (C2.out _).mono ?_
    rintro e w2 ⟨rfl, hb2⟩
    have BX2 := Lib.hid (BX1.out.next hb2)
    have hb2' := HB1.out.trans (hb2.mono HB1.out.size)
    have hn2 : Below w2.heap.size w2 (w2.alloc (.cells #[.int .i64 (V : Int), .int .i64 (N : Int), .int .i64 (G : Int)] 23)) := (Below.refl _ _).alloc (Nat.le_refl _) _
    have HB2 := Lib.hid (hb2'.trans (hn2.mono hb2'.size))
    have BX3 := Lib.hid (BX2.out.next hn2)
    have BY3 := Lib.hid (ux_alloc w2 V N G 23)
    clear hb2 hn2 hb2'
    go_wp2_with fail
    refine (AL.out _).mono ?_
    rintro e w3 ⟨rfl, hb3⟩
    have HB3 := Lib.hid (HB2.out.trans (hb3.mono HB2.out.size))
    obtain ⟨_, a0, a1, a2⟩ := BX3.out.next hb3
    obtain ⟨_, b0, b1, b2⟩ := BY3.out.next hb3
    clear hb3
    go_wp2
    go_ret
    exact ⟨rfl, HB3.out⟩
end Go.Proofs.Ytncbimgbjkdocaa
