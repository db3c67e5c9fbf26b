/- The walk of the statement SuperBack. -/
import Derived.Test.YtncbimgbjkdocaaSuperAlive
import Derived.Test.YtncbimgbjkdocaaSecTurn
import Derived.RegionTactic
import Derived.WalkSpells
namespace Go.Proofs.Ytncbimgbjkdocaa
open Go.RowKit
set_option maxRecDepth 100000
set_option linter.unusedVariables false

/-- What is known of a superblock's sector, and of that with a bit turned. -/
theorem super_turn (S : List UInt8) (h : Um.decE S = 0) (j m : Nat) (hj : j < 64) (hm : m < 8) : ∃ (s : ByteArray) (T p q : List UInt8) (y0 y : Nat) (hj' : j < s.size), s = Om.B S ∧ s.size = 64 ∧ (s[j]'hj').toNat = y0 ∧ y0 < 256 ∧ bits .xor .u8 (y0 : Int) ((2 : Int) ^ m % 256) = (y : Int) ∧ bits .xor .u8 (y0 : Int) (IntKind.u8.wrap ((2 : Int) ^ m)) = (y : Int) ∧ y < 256 ∧
    s.extract 0 j = Om.B p ∧ s.extract (j + 1) 64 = Om.B q ∧ (Om.B p ++ Om.B [UInt8.ofNat y]) ++ Om.B q = Om.B T ∧
    ¬ 9223372036854775807 < (Om.B p).size + (Om.B [UInt8.ofNat y]).size ∧ ¬ 9223372036854775807 < (Om.B p ++ Om.B [UInt8.ofNat y]).size + (Om.B q).size ∧ Um.decE T = 31 := by
  obtain ⟨s, T, p, q, y0, y, hj', h1, h2, h3, h4, h5, h6, h7, h8, h9, h10, h11, h12, h13, h14⟩ := sec_turn S (Sc.op_zero (Um.dec_zero S h).1).1 j m hj hm
  exact ⟨s, T, p, q, y0, y, hj', h1, h2, h3, h4, h5, h6, h7, h8, h9, h10, h11, h12, by rw [h13]; exact Um.turned S h j hj _ h14⟩
theorem udec_zeros (T : List UInt8) (x : Int) (w : World) (h : Um.decE T = x) (hx : x ≠ 0) : Calls Try.prog 11 #[.string (Om.B T)] w fun e w' => e = .returned (.tuple #[.agg #[.int .i64 0, .int .i64 0, .int .i64 0], .int .i64 x]) ∧ Below w.heap.size w w' :=
  (udec_any T w).mono fun e w' ⟨he, hb⟩ => by
    obtain ⟨h1, h2, h3⟩ := Um.dec_none T (by rw [h]; exact hx)
    unfold udecV at he
    rw [h, h1, h2, h3] at he
    exact ⟨he, hb⟩

theorem uback_long (a n g : Int) (s : List UInt8) (A : Nat) (w : World) (h : 200 < s.length) :
    Calls Try.prog 5 #[.agg #[.int .i64 a, .int .i64 n, .int .i64 g], .string (Om.B s), .int .u16 (A : Int)] w fun e w' => e = .returned (.bool true) ∧ Below w.heap.size w w' := by
  have d1 : decide (200 < ((Om.B s).size : Int)) = true := by rw [Om.B_size]; simp; omega
  have HB0 : Hid (Below w.heap.size w (w.alloc (.cells #[.int .i64 a, .int .i64 n, .int .i64 g] 23))) := (Below.refl _ _).alloc (Nat.le_refl _) _
  clear h
  go_enter Try.func5, Try.ntmps5
  go_wp2_with fail
  refine (ualive_any _).mono ?_
  rintro e w1 ⟨rfl, hb1⟩
  have HB1 := Lib.hid (HB0.out.trans (hb1.mono HB0.out.size))
  clear hb1
  go_wp2
  go_ret
  exact ⟨rfl, HB1.out⟩

set_option maxHeartbeats 800000 in
theorem uback_nn (a n g : Int) (s : List UInt8) (A : Nat) (w : World) (hA : A < 65536) (hs : s.length ≤ 200) (hok : Um.okU a n g = false) (hd : Um.decE s ≠ 0) :
    Calls Try.prog 5 #[.agg #[.int .i64 a, .int .i64 n, .int .i64 g], .string (Om.B s), .int .u16 (A : Int)] w fun e w' => e = .returned (.bool true) ∧ Below w.heap.size w w' := by
  have d1 : decide (200 < ((Om.B s).size : Int)) = false := by rw [Om.B_size]; simp; omega
  have AL := Lib.hid ualive_any
  have HB0 : Hid (Below w.heap.size w (w.alloc (.cells #[.int .i64 a, .int .i64 n, .int .i64 g] 23))) := (Below.refl _ _).alloc (Nat.le_refl _) _
  have BX0 := Lib.hid (ux_alloc w a n g 23)
  obtain ⟨_, a0, a1, a2⟩ := BX0.out
  have C1 := Lib.hid (fun w1 => uenc_any a n g w1)
  rw [(Um.enc_no hok).1, (Um.enc_no hok).2] at C1
  unfold Uv at C1
  have C2 := Lib.hid (fun w1 => udec_zeros s _ w1 rfl hd)
  obtain ⟨E, hE⟩ : ∃ x, x = Um.decE s := ⟨_, rfl⟩
  rw [← hE] at C2 hd
  have hne : (E != 0) = true := by simpa using hd
  clear hs hok hA hE hd
  go_enter Try.func5, Try.ntmps5
  go_wp2_with fail
  refine (C1.out _).mono ?_
  rintro e w1 ⟨rfl, hb1⟩
  have HB1 := Lib.hid (HB0.out.trans (hb1.mono HB0.out.size))
  have BX1 := Lib.hid (BX0.out.next hb1)
  clear hb1 a0 a1 a2
  go_wp2_with fail
  refine (C2.out _).mono ?_
  rintro e w4 ⟨rfl, hb4⟩
  have hB4 := HB1.out.trans (hb4.mono HB1.out.size)
  have hn4 : Below w4.heap.size w4 (w4.alloc (.cells #[.int .i64 0, .int .i64 0, .int .i64 0] 23)) := (Below.refl _ _).alloc (Nat.le_refl _) _
  have HB4 := Lib.hid (hB4.trans (hn4.mono hB4.size))
  have hw4 := heap_alloc_new w4 (.cells #[.int .i64 0, .int .i64 0, .int .i64 0] 23)
  have HW4 := Lib.hid hw4
  have hl4 := (Array.getElem?_eq_some_iff.1 hw4).1
  clear hb4 hn4 hB4 hw4
  go_wp2_with fail
  refine (AL.out _).mono ?_
  rintro e w5 ⟨rfl, hb5⟩
  have HB5 := Lib.hid (HB4.out.trans (hb5.mono HB4.out.size))
  obtain ⟨z0, z1, z2, zf⟩ := uzero_cells ((hb5.block _ hl4).trans HW4.out)
  clear hb5 hl4
  go_wp2
  go_ret
  exact ⟨rfl, HB5.out⟩

set_option maxHeartbeats 800000 in
theorem uback_yn (a n g : Int) (s : List UInt8) (A : Nat) (w : World) (hA : A < 65536) (hs : s.length ≤ 200) (hok : Um.okU a n g = true) (hd : Um.decE s ≠ 0) :
    Calls Try.prog 5 #[.agg #[.int .i64 a, .int .i64 n, .int .i64 g], .string (Om.B s), .int .u16 (A : Int)] w fun e w' => e = .returned (.bool true) ∧ Below w.heap.size w w' := by
  have d1 : decide (200 < ((Om.B s).size : Int)) = false := by rw [Om.B_size]; simp; omega
  have AL := Lib.hid ualive_any
  have HB0 : Hid (Below w.heap.size w (w.alloc (.cells #[.int .i64 a, .int .i64 n, .int .i64 g] 23))) := (Below.refl _ _).alloc (Nat.le_refl _) _
  have BX0 := Lib.hid (ux_alloc w a n g 23)
  obtain ⟨_, a0, a1, a2⟩ := BX0.out
  have C1 := Lib.hid (fun w1 => uenc_right a n g w1 hok)
  have D1 := Lib.hid (fun w1 => udec_back a n g w1 hok)
  have R1 := Lib.hid (fun w1 => uright_any a n g w1)
  rw [hok] at R1
  have hxl := Um.sector_len a n g
  obtain ⟨x, hx⟩ : ∃ x, x = Om.B (Um.sector a n g) := ⟨_, rfl⟩
  have h64 : ((x.size : Int) != 64) = false := by rw [hx, Om.B_size, hxl]; rfl
  rw [← hx] at C1 D1
  unfold Uv at C1 D1 R1
  have C2 := Lib.hid (fun w1 => udec_zeros s _ w1 rfl hd)
  obtain ⟨E, hE⟩ : ∃ x, x = Um.decE s := ⟨_, rfl⟩
  rw [← hE] at C2 hd
  have hne : (E != 0) = true := by simpa using hd
  clear hs hok hA hxl hx hE hd
  go_enter Try.func5, Try.ntmps5
  go_wp2_with fail
  refine (C1.out _).mono ?_
  rintro e w1 ⟨rfl, hb1⟩
  have HB1 := Lib.hid (HB0.out.trans (hb1.mono HB0.out.size))
  have BX1 := Lib.hid (BX0.out.next hb1)
  clear hb1 a0 a1 a2
  go_wp2_with fail
  refine (D1.out _).mono ?_
  rintro e w2 ⟨rfl, hb2⟩
  have hB2 := HB1.out.trans (hb2.mono HB1.out.size)
  have BX2 := Lib.hid (BX1.out.next hb2)
  have hn2 : Below w2.heap.size w2 (w2.alloc (.cells #[.int .i64 a, .int .i64 n, .int .i64 g] 23)) := (Below.refl _ _).alloc (Nat.le_refl _) _
  have HB2 := Lib.hid (hB2.trans (hn2.mono hB2.size))
  obtain ⟨_, a0, a1, a2⟩ := BX2.out.next hn2
  obtain ⟨_, b0, b1, b2⟩ := ux_alloc w2 a n g 23
  clear hb2 hn2 hB2
  go_wp2_with fail
  refine (R1.out _).mono ?_
  rintro e w3 ⟨rfl, hb3⟩
  have HB3 := Lib.hid (HB2.out.trans (hb3.mono HB2.out.size))
  clear hb3 a0 a1 a2 b0 b1 b2
  go_wp2_with fail
  refine (C2.out _).mono ?_
  rintro e w4 ⟨rfl, hb4⟩
  have hB4 := HB3.out.trans (hb4.mono HB3.out.size)
  have hn4 : Below w4.heap.size w4 (w4.alloc (.cells #[.int .i64 0, .int .i64 0, .int .i64 0] 23)) := (Below.refl _ _).alloc (Nat.le_refl _) _
  have HB4 := Lib.hid (hB4.trans (hn4.mono hB4.size))
  have hw4 := heap_alloc_new w4 (.cells #[.int .i64 0, .int .i64 0, .int .i64 0] 23)
  have HW4 := Lib.hid hw4
  have hl4 := (Array.getElem?_eq_some_iff.1 hw4).1
  clear hb4 hn4 hB4 hw4
  go_wp2_with fail
  refine (AL.out _).mono ?_
  rintro e w5 ⟨rfl, hb5⟩
  have HB5 := Lib.hid (HB4.out.trans (hb5.mono HB4.out.size))
  obtain ⟨z0, z1, z2, zf⟩ := uzero_cells ((hb5.block _ hl4).trans HW4.out)
  clear hb5 hl4
  go_wp2
  go_ret
  exact ⟨rfl, HB5.out⟩

set_option maxHeartbeats 800000 in
theorem uback_ny (a n g : Int) (s : List UInt8) (A : Nat) (w : World) (hA : A < 65536) (hs : s.length ≤ 200) (hok : Um.okU a n g = false) (hd : Um.decE s = 0) :
    Calls Try.prog 5 #[.agg #[.int .i64 a, .int .i64 n, .int .i64 g], .string (Om.B s), .int .u16 (A : Int)] w fun e w' => e = .returned (.bool true) ∧ Below w.heap.size w w' := by
  have d1 : decide (200 < ((Om.B s).size : Int)) = false := by rw [Om.B_size]; simp; omega
  have AL := Lib.hid ualive_any
  have HB0 : Hid (Below w.heap.size w (w.alloc (.cells #[.int .i64 a, .int .i64 n, .int .i64 g] 23))) := (Below.refl _ _).alloc (Nat.le_refl _) _
  have BX0 := Lib.hid (ux_alloc w a n g 23)
  obtain ⟨_, a0, a1, a2⟩ := BX0.out
  have C1 := Lib.hid (fun w1 => uenc_any a n g w1)
  rw [(Um.enc_no hok).1, (Um.enc_no hok).2] at C1
  unfold Uv at C1
  have hsl : s.length = 64 := (Sc.op_zero (Um.dec_zero s hd).1).1
  obtain ⟨ha1, ha2⟩ := Um.again s hd
  have C2 := Lib.hid (fun w1 => udec_any s w1)
  unfold UDec udecV at C2
  have C3 := Lib.hid (fun w1 => uenc_right _ _ _ w1 ha1)
  rw [ha2] at C3
  have R2 := Lib.hid (fun w1 => uright_any (Um.decA s) (Um.decN s) (Um.decG s) w1)
  rw [ha1] at R2
  rw [hd] at C2
  obtain ⟨j, hj⟩ : ∃ j, j = A / 8 % 64 := ⟨_, rfl⟩
  obtain ⟨m, hm⟩ : ∃ m, m = A % 8 := ⟨_, rfl⟩
  have hj64 : j < 64 := by rw [hj]; exact Nat.mod_lt _ (by omega)
  have hm8 : m < 8 := by rw [hm]; exact Nat.mod_lt _ (by omega)
  have hjn := place_int A hA
  rw [← hj] at hjn
  have hmn := bit_int A hA
  rw [← hm] at hmn
  obtain ⟨x2, T, p2, q2, y0, y, hjx, hx2, hxs, hxj, hy0, hxor, hxor2, hy, hep, heq, hTe, ho1, ho2, hT⟩ := super_turn s hd j m hj64 hm8
  have D2 := Lib.hid (fun w1 => udec_zeros T 31 w1 hT (by decide))
  obtain ⟨V, hV⟩ : ∃ x, x = Um.decA s := ⟨_, rfl⟩
  obtain ⟨N, hN⟩ : ∃ x, x = Um.decN s := ⟨_, rfl⟩
  obtain ⟨G, hG⟩ : ∃ x, x = Um.decG s := ⟨_, rfl⟩
  rw [← hV, ← hN, ← hG] at C2 C3 R2
  unfold Uv at C2 C3 R2
  rw [← hx2] at C2 C3 d1 ⊢
  have hd64 : ((x2.size : Int) != 64) = false := by rw [hxs]; rfl
  have hidx : (((x2[j]'hjx).toNat : Nat) : Int) = (y0 : Int) := by rw [hxj]
  clear hs hok hA hsl ha1 ha2 hd hj hm hx2 hV hN hG hT
  go_enter Try.func5, Try.ntmps5
  go_wp2_with fail
  refine (C1.out _).mono ?_
  rintro e w1 ⟨rfl, hb1⟩
  have HB1 := Lib.hid (HB0.out.trans (hb1.mono HB0.out.size))
  have BX1 := Lib.hid (BX0.out.next hb1)
  clear hb1 a0 a1 a2
  go_wp2_with fail
  refine (C2.out _).mono ?_
  rintro e w4 ⟨rfl, hb4⟩
  have hB4 := HB1.out.trans (hb4.mono HB1.out.size)
  have hn4 : Below w4.heap.size w4 (w4.alloc (.cells #[.int .i64 (V : Int), .int .i64 (N : Int), .int .i64 (G : Int)] 23)) := (Below.refl _ _).alloc (Nat.le_refl _) _
  have HB4 := Lib.hid (hB4.trans (hn4.mono hB4.size))
  have BY4 := Lib.hid (ux_alloc w4 V N G 23)
  obtain ⟨_, b0, b1, b2⟩ := BY4.out
  clear hb4 hn4 hB4
  go_wp2_with fail
  refine (C3.out _).mono ?_
  rintro e w5 ⟨rfl, hb5⟩
  have HB5 := Lib.hid (HB4.out.trans (hb5.mono HB4.out.size))
  have BY5 := Lib.hid (BY4.out.next hb5)
  clear hb5 b0 b1 b2
  go_wp2
  have j0 : (0 : Int) ≤ (j : Int) := by omega
  have j1 : (j : Int) ≤ 64 := by omega
  have j2 : (0 : Int) ≤ (j : Int) + 1 := by omega
  have j3 : (j : Int) + 1 ≤ 64 := by omega
  have j4 : IntKind.i64.wrap ((j : Int) + 1) = (j : Int) + 1 := IntWalk.i64_in _ (by omega)
  have j5 : (j : Int) < 64 := by omega
  have hcv := str_drew w5 y hy
  go_region
  obtain ⟨W6, hW6⟩ : ∃ W, (w5.alloc (.cells #[.int .u8 (y : Int)] 5)).drew = W := ⟨_, rfl⟩
  have hb6 : Below w5.heap.size w5 W6 := by rw [← hW6]; exact ((Below.refl _ _).alloc (Nat.le_refl _) _).drew
  rw [hW6]
  have HB6 := Lib.hid (HB5.out.trans (hb6.mono HB5.out.size))
  have BY6 := Lib.hid (BY5.out.next hb6)
  clear hcv hep heq hTe ho1 ho2 hxj hxor hxor2 hidx hW6 hb6
  go_wp2_with fail
  refine (D2.out _).mono ?_
  rintro e w7 ⟨rfl, hb7⟩
  have hB7 := HB6.out.trans (hb7.mono HB6.out.size)
  have hn7 : Below w7.heap.size w7 (w7.alloc (.cells #[.int .i64 0, .int .i64 0, .int .i64 0] 23)) := (Below.refl _ _).alloc (Nat.le_refl _) _
  have HB7 := Lib.hid (hB7.trans (hn7.mono hB7.size))
  have BY7 := Lib.hid ((BY6.out.next hb7).next hn7)
  clear hb7 hn7 hB7
  go_wp2_with fail
  refine (AL.out _).mono ?_
  rintro e w8 ⟨rfl, hb8⟩
  have HB8 := Lib.hid (HB7.out.trans (hb8.mono HB7.out.size))
  obtain ⟨_, b0, b1, b2⟩ := BY7.out.next hb8
  clear hb8
  go_wp2_with fail
  refine (R2.out _).mono ?_
  rintro e w9 ⟨rfl, hb9⟩
  have HB9 := Lib.hid (HB8.out.trans (hb9.mono HB8.out.size))
  clear hb9
  go_wp2
  go_ret
  exact ⟨rfl, HB9.out⟩

set_option maxHeartbeats 800000 in
theorem uback_yy (a n g : Int) (s : List UInt8) (A : Nat) (w : World) (hA : A < 65536) (hs : s.length ≤ 200) (hok : Um.okU a n g = true) (hd : Um.decE s = 0) :
    Calls Try.prog 5 #[.agg #[.int .i64 a, .int .i64 n, .int .i64 g], .string (Om.B s), .int .u16 (A : Int)] w fun e w' => e = .returned (.bool true) ∧ Below w.heap.size w w' := by
  have d1 : decide (200 < ((Om.B s).size : Int)) = false := by rw [Om.B_size]; simp; omega
  have AL := Lib.hid ualive_any
  have HB0 : Hid (Below w.heap.size w (w.alloc (.cells #[.int .i64 a, .int .i64 n, .int .i64 g] 23))) := (Below.refl _ _).alloc (Nat.le_refl _) _
  have BX0 := Lib.hid (ux_alloc w a n g 23)
  obtain ⟨_, a0, a1, a2⟩ := BX0.out
  have C1 := Lib.hid (fun w1 => uenc_right a n g w1 hok)
  have D1 := Lib.hid (fun w1 => udec_back a n g w1 hok)
  have R1 := Lib.hid (fun w1 => uright_any a n g w1)
  rw [hok] at R1
  have hxl := Um.sector_len a n g
  obtain ⟨x, hx⟩ : ∃ x, x = Om.B (Um.sector a n g) := ⟨_, rfl⟩
  have h64 : ((x.size : Int) != 64) = false := by rw [hx, Om.B_size, hxl]; rfl
  rw [← hx] at C1 D1
  unfold Uv at C1 D1 R1
  have hsl : s.length = 64 := (Sc.op_zero (Um.dec_zero s hd).1).1
  obtain ⟨ha1, ha2⟩ := Um.again s hd
  have C2 := Lib.hid (fun w1 => udec_any s w1)
  unfold UDec udecV at C2
  have C3 := Lib.hid (fun w1 => uenc_right _ _ _ w1 ha1)
  rw [ha2] at C3
  have R2 := Lib.hid (fun w1 => uright_any (Um.decA s) (Um.decN s) (Um.decG s) w1)
  rw [ha1] at R2
  rw [hd] at C2
  obtain ⟨j, hj⟩ : ∃ j, j = A / 8 % 64 := ⟨_, rfl⟩
  obtain ⟨m, hm⟩ : ∃ m, m = A % 8 := ⟨_, rfl⟩
  have hj64 : j < 64 := by rw [hj]; exact Nat.mod_lt _ (by omega)
  have hm8 : m < 8 := by rw [hm]; exact Nat.mod_lt _ (by omega)
  have hjn := place_int A hA
  rw [← hj] at hjn
  have hmn := bit_int A hA
  rw [← hm] at hmn
  obtain ⟨x2, T, p2, q2, y0, y, hjx, hx2, hxs, hxj, hy0, hxor, hxor2, hy, hep, heq, hTe, ho1, ho2, hT⟩ := super_turn s hd j m hj64 hm8
  have D2 := Lib.hid (fun w1 => udec_zeros T 31 w1 hT (by decide))
  obtain ⟨V, hV⟩ : ∃ x, x = Um.decA s := ⟨_, rfl⟩
  obtain ⟨N, hN⟩ : ∃ x, x = Um.decN s := ⟨_, rfl⟩
  obtain ⟨G, hG⟩ : ∃ x, x = Um.decG s := ⟨_, rfl⟩
  rw [← hV, ← hN, ← hG] at C2 C3 R2
  unfold Uv at C2 C3 R2
  rw [← hx2] at C2 C3 d1 ⊢
  have hd64 : ((x2.size : Int) != 64) = false := by rw [hxs]; rfl
  have hidx : (((x2[j]'hjx).toNat : Nat) : Int) = (y0 : Int) := by rw [hxj]
  clear hs hok hA hxl hx hsl ha1 ha2 hd hj hm hx2 hV hN hG hT
  go_enter Try.func5, Try.ntmps5
  go_wp2_with fail
  refine (C1.out _).mono ?_
  rintro e w1 ⟨rfl, hb1⟩
  have HB1 := Lib.hid (HB0.out.trans (hb1.mono HB0.out.size))
  have BX1 := Lib.hid (BX0.out.next hb1)
  clear hb1 a0 a1 a2
  go_wp2_with fail
  refine (D1.out _).mono ?_
  rintro e w2 ⟨rfl, hb2⟩
  have hB2 := HB1.out.trans (hb2.mono HB1.out.size)
  have BX2 := Lib.hid (BX1.out.next hb2)
  have hn2 : Below w2.heap.size w2 (w2.alloc (.cells #[.int .i64 a, .int .i64 n, .int .i64 g] 23)) := (Below.refl _ _).alloc (Nat.le_refl _) _
  have HB2 := Lib.hid (hB2.trans (hn2.mono hB2.size))
  obtain ⟨_, a0, a1, a2⟩ := BX2.out.next hn2
  obtain ⟨_, b0, b1, b2⟩ := ux_alloc w2 a n g 23
  clear hb2 hn2 hB2
  go_wp2_with fail
  refine (R1.out _).mono ?_
  rintro e w3 ⟨rfl, hb3⟩
  have HB3 := Lib.hid (HB2.out.trans (hb3.mono HB2.out.size))
  clear hb3 a0 a1 a2 b0 b1 b2
  go_wp2_with fail
  refine (C2.out _).mono ?_
  rintro e w4 ⟨rfl, hb4⟩
  have hB4 := HB3.out.trans (hb4.mono HB3.out.size)
  have hn4 : Below w4.heap.size w4 (w4.alloc (.cells #[.int .i64 (V : Int), .int .i64 (N : Int), .int .i64 (G : Int)] 23)) := (Below.refl _ _).alloc (Nat.le_refl _) _
  have HB4 := Lib.hid (hB4.trans (hn4.mono hB4.size))
  have BY4 := Lib.hid (ux_alloc w4 V N G 23)
  obtain ⟨_, b0, b1, b2⟩ := BY4.out
  clear hb4 hn4 hB4
  go_wp2_with fail
  refine (C3.out _).mono ?_
  rintro e w5 ⟨rfl, hb5⟩
  have HB5 := Lib.hid (HB4.out.trans (hb5.mono HB4.out.size))
  have BY5 := Lib.hid (BY4.out.next hb5)
  clear hb5 b0 b1 b2
  go_wp2
  have j0 : (0 : Int) ≤ (j : Int) := by omega
  have j1 : (j : Int) ≤ 64 := by omega
  have j2 : (0 : Int) ≤ (j : Int) + 1 := by omega
  have j3 : (j : Int) + 1 ≤ 64 := by omega
  have j4 : IntKind.i64.wrap ((j : Int) + 1) = (j : Int) + 1 := IntWalk.i64_in _ (by omega)
  have j5 : (j : Int) < 64 := by omega
  have hcv := str_drew w5 y hy
  go_region
  obtain ⟨W6, hW6⟩ : ∃ W, (w5.alloc (.cells #[.int .u8 (y : Int)] 5)).drew = W := ⟨_, rfl⟩
  have hb6 : Below w5.heap.size w5 W6 := by rw [← hW6]; exact ((Below.refl _ _).alloc (Nat.le_refl _) _).drew
  rw [hW6]
  have HB6 := Lib.hid (HB5.out.trans (hb6.mono HB5.out.size))
  have BY6 := Lib.hid (BY5.out.next hb6)
  clear hcv hep heq hTe ho1 ho2 hxj hxor hxor2 hidx hW6 hb6
  go_wp2_with fail
  refine (D2.out _).mono ?_
  rintro e w7 ⟨rfl, hb7⟩
  have hB7 := HB6.out.trans (hb7.mono HB6.out.size)
  have hn7 : Below w7.heap.size w7 (w7.alloc (.cells #[.int .i64 0, .int .i64 0, .int .i64 0] 23)) := (Below.refl _ _).alloc (Nat.le_refl _) _
  have HB7 := Lib.hid (hB7.trans (hn7.mono hB7.size))
  have BY7 := Lib.hid ((BY6.out.next hb7).next hn7)
  clear hb7 hn7 hB7
  go_wp2_with fail
  refine (AL.out _).mono ?_
  rintro e w8 ⟨rfl, hb8⟩
  have HB8 := Lib.hid (HB7.out.trans (hb8.mono HB7.out.size))
  obtain ⟨_, b0, b1, b2⟩ := BY7.out.next hb8
  clear hb8
  go_wp2_with fail
  refine (R2.out _).mono ?_
  rintro e w9 ⟨rfl, hb9⟩
  have HB9 := Lib.hid (HB8.out.trans (hb9.mono HB8.out.size))
  clear hb9
  go_wp2
  go_ret
  exact ⟨rfl, HB9.out⟩

/-- The statement's walk. -/
theorem uback_any (a n g : Int) (s : List UInt8) (A : Nat) (w : World) (hA : A < 65536) :
    Calls Try.prog 5 #[.agg #[.int .i64 a, .int .i64 n, .int .i64 g], .string (Om.B s), .int .u16 (A : Int)] w fun e w' => e = .returned (.bool true) ∧ Below w.heap.size w w' := by
  by_cases h : 200 < s.length
  · exact uback_long a n g s A w h
  · by_cases hd : Um.decE s = 0
    · cases hok : Um.okU a n g with
      | false => exact uback_ny a n g s A w hA (by omega) hok hd
      | true => exact uback_yy a n g s A w hA (by omega) hok hd
    · cases hok : Um.okU a n g with
      | false => exact uback_nn a n g s A w hA (by omega) hok hd
      | true => exact uback_yn a n g s A w hA (by omega) hok hd
end Go.Proofs.Ytncbimgbjkdocaa
