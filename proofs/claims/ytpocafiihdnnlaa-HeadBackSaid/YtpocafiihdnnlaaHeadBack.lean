/- The walk of the statement HeadBack. -/
import Derived.Test.YtpocafiihdnnlaaHeadAlive
import Derived.RegionTactic
import Derived.WalkSpells
namespace Go.Proofs.Ytpocafiihdnnlaa
open Go.RowKit
set_option linter.unusedVariables false

theorem str_drew (W : World) (y : Nat) (hy : y < 256) : (convert 34 9 (.slice (some ⟨W.heap.size, 0, none⟩) 1 1)).run Try.prog (W.alloc (.cells #[.int .u8 (y : Int)] 5)).drew = .ok (.string (Om.B [UInt8.ofNat y])) (W.alloc (.cells #[.int .u8 (y : Int)] 5)).drew := by
  have e : (y : Int) = ((UInt8.ofNat y).toNat : Int) := by rw [UInt8.toNat_ofNat']; omega
  rw [e]
  exact run_convert_bytes_back (P := Try.prog) (W.alloc (.cells #[.int .u8 ((UInt8.ofNat y).toNat : Int)] 5)).drew 34 9 5 ⟨W.heap.size, 0, none⟩ 1 [UInt8.ofNat y] Try.underlying34 Try.underlying5 Try.underlying9 (fun i hi => by
    have : i = 0 := by simpa using hi
    subst this
    simp [Addr.add])
theorem place_int (A : Nat) (h : A < 65536) : (wrap64 ((wrap64 (A : Int)).tdiv 8)).tmod 64 = ((A / 8 % 64 : Nat) : Int) := by
  have e1 : wrap64 (A : Int) = (A : Int) := by unfold wrap64; omega
  have e2 : ((A : Int)).tdiv 8 = ((A / 8 : Nat) : Int) := by rw [Int.tdiv_eq_ediv_of_nonneg (by omega)]; omega
  have e3 : wrap64 ((A / 8 : Nat) : Int) = ((A / 8 : Nat) : Int) := by unfold wrap64; omega
  rw [e1, e2, e3, Int.tmod_eq_emod_of_nonneg (by omega)]
  omega
theorem bit_int (A : Nat) (h : A < 65536) : ((A : Int)).tmod 8 = ((A % 8 : Nat) : Int) := by
  rw [Int.tmod_eq_emod_of_nonneg (by omega)]
  omega
/-- What is known of a sector, and of that with a bit turned. -/
theorem head_turn (S : List UInt8) (h : Hm.decE S = 0) (j m : Nat) (hj : j < 64) (hm : m < 8) : ∃ (s : ByteArray) (T p q : List UInt8) (y0 y : Nat) (hj' : j < s.size), s = Om.B S ∧ s.size = 64 ∧ (s[j]'hj').toNat = y0 ∧ y0 < 256 ∧ bits .xor .u8 (y0 : Int) ((2 : Int) ^ m % 256) = (y : Int) ∧ bits .xor .u8 (y0 : Int) (IntKind.u8.wrap ((2 : Int) ^ m)) = (y : Int) ∧ y < 256 ∧
    s.extract 0 j = Om.B p ∧ s.extract (j + 1) 64 = Om.B q ∧ (Om.B p ++ Om.B [UInt8.ofNat y]) ++ Om.B q = Om.B T ∧
    ¬ 9223372036854775807 < (Om.B p).size + (Om.B [UInt8.ofNat y]).size ∧ ¬ 9223372036854775807 < (Om.B p ++ Om.B [UInt8.ofNat y]).size + (Om.B q).size ∧ Hm.decE T = 31 := by
  have hl : S.length = 64 := (Sc.op_zero (Hm.dec_zero S h).1).1
  have hjl : j < S.length := by omega
  have hy0 : (S[j]'hjl).toNat < 256 := UInt8.toNat_lt _
  have hm2 : 2 ^ m < 256 := by
    have : 2 ^ m ≤ 2 ^ 7 := Nat.pow_le_pow_right (by omega) (by omega)
    omega
  have hm0 : 0 < 2 ^ m := Nat.pow_pos (by omega)
  have hy : (S[j]'hjl).toNat ^^^ 2 ^ m < 256 := Nat.xor_lt_two_pow (n := 8) hy0 hm2
  have hpw : (2 : Int) ^ m = ((2 ^ m : Nat) : Int) := by simp
  have hx0 := u8_xor_nat (S[j]'hjl).toNat (2 ^ m) hy0 hm2
  have hxa : bits .xor .u8 ((S[j]'hjl).toNat : Int) ((2 : Int) ^ m % 256) = (((S[j]'hjl).toNat ^^^ 2 ^ m : Nat) : Int) := by
    rw [hpw, Int.emod_eq_of_lt (by omega) (by omega)]; exact hx0
  have hxb : bits .xor .u8 ((S[j]'hjl).toNat : Int) (IntKind.u8.wrap ((2 : Int) ^ m)) = (((S[j]'hjl).toNat ^^^ 2 ^ m : Nat) : Int) := by
    rw [hpw, IntWalk.u8_in _ (by omega)]; exact hx0
  have e := Om.extract_end (Om.B S) (j + 1)
  rw [show (Om.B S).size = 64 from hl, Om.L_B] at e
  refine ⟨Om.B S, S.set j (UInt8.ofNat ((S[j]'hjl).toNat ^^^ 2 ^ m)), S.take j, S.drop (j + 1), (S[j]'hjl).toNat, (S[j]'hjl).toNat ^^^ 2 ^ m, hjl, rfl, hl, rfl, hy0, hxa, hxb, hy, ?_, e, ?_, ?_, ?_, ?_⟩
  · rw [Om.extract_front, Om.L_B]
  · rw [Om.B_append, Om.B_append, List.set_eq_take_append_cons_drop, if_pos hjl, List.append_assoc]
    rfl
  · exact no_over _ _ (by rw [List.length_take]; simp; omega)
  · rw [Om.B_append]
    exact no_over _ _ (by rw [List.length_append, List.length_take, List.length_drop]; simp; omega)
  · refine Hm.turned S h j hj _ ?_
    rw [List.getElem?_eq_getElem hjl]
    intro c
    injection c with c
    have c2 : (UInt8.ofNat ((S[j]'hjl).toNat ^^^ 2 ^ m)).toNat = (S[j]'hjl).toNat := by rw [← c]
    rw [UInt8.toNat_ofNat', Nat.mod_eq_of_lt hy] at c2
    have c3 : (S[j]'hjl).toNat ^^^ 2 ^ m = (S[j]'hjl).toNat ^^^ 0 := by rw [c2, Nat.xor_zero]
    have := Cm.xor_left c3
    omega
theorem hdec_zeros (T : List UInt8) (x : Int) (w : World) (h : Hm.decE T = x) (hx : x ≠ 0) : Calls Try.prog 11 #[.string (Om.B T)] w fun e w' => e = .returned (.tuple #[.agg #[.int .u32 0, .int .i64 0, .int .i64 0, .bool false], .int .i64 x]) ∧ Below w.heap.size w w' :=
  (hdec_any T w).mono fun e w' ⟨he, hb⟩ => by
    obtain ⟨h1, h2, h3, h4⟩ := Hm.dec_none T (by rw [h]; exact hx)
    unfold decV at he
    rw [h, h1, h2, h3, h4] at he
    exact ⟨he, hb⟩

theorem hback_long (g : Nat) (c p : Int) (b : Bool) (s : List UInt8) (A : Nat) (w : World) (h : 200 < s.length) :
    Calls Try.prog 5 #[.agg #[.int .u32 (g : Int), .int .i64 c, .int .i64 p, .bool b], .string (Om.B s), .int .u16 (A : Int)] w fun e w' => e = .returned (.bool true) ∧ Below w.heap.size w w' := by
  have d1 : decide (200 < ((Om.B s).size : Int)) = true := by rw [Om.B_size]; simp; omega
  have HB0 : Hid (Below w.heap.size w (w.alloc (.cells #[.int .u32 (g : Int), .int .i64 c, .int .i64 p, .bool b] 24))) := (Below.refl _ _).alloc (Nat.le_refl _) _
  clear h
  go_enter Try.func5, Try.ntmps5
  go_wp2_with fail
  refine (halive_any _).mono ?_
  rintro e w1 ⟨rfl, hb1⟩
  have HB1 := Lib.hid (HB0.out.trans (hb1.mono HB0.out.size))
  clear hb1
  go_wp2
  go_ret
  exact ⟨rfl, HB1.out⟩

set_option maxHeartbeats 800000 in
theorem hback_nn (g : Nat) (c p : Int) (b : Bool) (s : List UInt8) (A : Nat) (w : World) (hg : g < 4294967296) (hA : A < 65536) (hs : s.length ≤ 200) (hok : Hm.okH g c p = false) (hd : Hm.decE s ≠ 0) :
    Calls Try.prog 5 #[.agg #[.int .u32 (g : Int), .int .i64 c, .int .i64 p, .bool b], .string (Om.B s), .int .u16 (A : Int)] w fun e w' => e = .returned (.bool true) ∧ Below w.heap.size w w' := by
  have d1 : decide (200 < ((Om.B s).size : Int)) = false := by rw [Om.B_size]; simp; omega
  have AL := Lib.hid halive_any
  have HB0 : Hid (Below w.heap.size w (w.alloc (.cells #[.int .u32 (g : Int), .int .i64 c, .int .i64 p, .bool b] 24))) := (Below.refl _ _).alloc (Nat.le_refl _) _
  have BX0 := Lib.hid (bx_alloc w g c p b 24)
  obtain ⟨_, a0, a1, a2, a3⟩ := BX0.out
  have C1 := Lib.hid (fun w1 => henc_any g c p b w1 hg)
  rw [(Hm.enc_no b hok).1, (Hm.enc_no b hok).2] at C1
  unfold Hv at C1
  have C2 := Lib.hid (fun w1 => hdec_zeros s _ w1 rfl hd)
  obtain ⟨E, hE⟩ : ∃ x, x = Hm.decE s := ⟨_, rfl⟩
  rw [← hE] at C2 hd
  have hne : (E != 0) = true := by simpa using hd
  clear hg hs hok hA hE hd
  go_enter Try.func5, Try.ntmps5
  go_wp2_with fail
  refine (C1.out _).mono ?_
  rintro e w1 ⟨rfl, hb1⟩
  have HB1 := Lib.hid (HB0.out.trans (hb1.mono HB0.out.size))
  have BX1 := Lib.hid (BX0.out.next hb1)
  clear hb1 a0 a1 a2 a3
  go_wp2_with fail
  refine (C2.out _).mono ?_
  rintro e w4 ⟨rfl, hb4⟩
  have hB4 := HB1.out.trans (hb4.mono HB1.out.size)
  have hn4 : Below w4.heap.size w4 (w4.alloc (.cells #[.int .u32 0, .int .i64 0, .int .i64 0, .bool false] 24)) := (Below.refl _ _).alloc (Nat.le_refl _) _
  have HB4 := Lib.hid (hB4.trans (hn4.mono hB4.size))
  have hw4 := heap_alloc_new w4 (.cells #[.int .u32 0, .int .i64 0, .int .i64 0, .bool false] 24)
  have HW4 := Lib.hid hw4
  have hl4 := (Array.getElem?_eq_some_iff.1 hw4).1
  clear hb4 hn4 hB4 hw4
  go_wp2_with fail
  refine (AL.out _).mono ?_
  rintro e w5 ⟨rfl, hb5⟩
  have HB5 := Lib.hid (HB4.out.trans (hb5.mono HB4.out.size))
  obtain ⟨z0, z1, z2, z3, zf⟩ := zero_cells ((hb5.block _ hl4).trans HW4.out)
  clear hb5 hl4
  go_wp2
  go_ret
  exact ⟨rfl, HB5.out⟩

set_option maxHeartbeats 800000 in
theorem hback_yn (g : Nat) (c p : Int) (b : Bool) (s : List UInt8) (A : Nat) (w : World) (hg : g < 4294967296) (hA : A < 65536) (hs : s.length ≤ 200) (hok : Hm.okH g c p = true) (hd : Hm.decE s ≠ 0) :
    Calls Try.prog 5 #[.agg #[.int .u32 (g : Int), .int .i64 c, .int .i64 p, .bool b], .string (Om.B s), .int .u16 (A : Int)] w fun e w' => e = .returned (.bool true) ∧ Below w.heap.size w w' := by
  have d1 : decide (200 < ((Om.B s).size : Int)) = false := by rw [Om.B_size]; simp; omega
  have AL := Lib.hid halive_any
  have HB0 : Hid (Below w.heap.size w (w.alloc (.cells #[.int .u32 (g : Int), .int .i64 c, .int .i64 p, .bool b] 24))) := (Below.refl _ _).alloc (Nat.le_refl _) _
  have BX0 := Lib.hid (bx_alloc w g c p b 24)
  obtain ⟨_, a0, a1, a2, a3⟩ := BX0.out
  have C1 := Lib.hid (fun w1 => henc_right g c p b w1 hg hok)
  have D1 := Lib.hid (fun w1 => hdec_back g c p b w1 hg hok)
  have R1 := Lib.hid (fun w1 => hright_any g c p b w1)
  rw [hok] at R1
  have hxl := Hm.sector_len g c p b
  obtain ⟨x, hx⟩ : ∃ x, x = Om.B (Hm.sector g c p b) := ⟨_, rfl⟩
  have h64 : ((x.size : Int) != 64) = false := by rw [hx, Om.B_size, hxl]; rfl
  rw [← hx] at C1 D1
  unfold Hv at C1 D1 R1
  have C2 := Lib.hid (fun w1 => hdec_zeros s _ w1 rfl hd)
  obtain ⟨E, hE⟩ : ∃ x, x = Hm.decE s := ⟨_, rfl⟩
  rw [← hE] at C2 hd
  have hne : (E != 0) = true := by simpa using hd
  clear hg hs hok hA hxl hx hE hd
  go_enter Try.func5, Try.ntmps5
  go_wp2_with fail
  refine (C1.out _).mono ?_
  rintro e w1 ⟨rfl, hb1⟩
  have HB1 := Lib.hid (HB0.out.trans (hb1.mono HB0.out.size))
  have BX1 := Lib.hid (BX0.out.next hb1)
  clear hb1 a0 a1 a2 a3
  go_wp2_with fail
  refine (D1.out _).mono ?_
  rintro e w2 ⟨rfl, hb2⟩
  have hB2 := HB1.out.trans (hb2.mono HB1.out.size)
  have BX2 := Lib.hid (BX1.out.next hb2)
  have hn2 : Below w2.heap.size w2 (w2.alloc (.cells #[.int .u32 (g : Int), .int .i64 c, .int .i64 p, .bool b] 24)) := (Below.refl _ _).alloc (Nat.le_refl _) _
  have HB2 := Lib.hid (hB2.trans (hn2.mono hB2.size))
  obtain ⟨_, a0, a1, a2, a3⟩ := BX2.out.next hn2
  obtain ⟨_, b0, b1, b2, b3⟩ := bx_alloc w2 g c p b 24
  clear hb2 hn2 hB2
  go_wp2_with fail
  refine (R1.out _).mono ?_
  rintro e w3 ⟨rfl, hb3⟩
  have HB3 := Lib.hid (HB2.out.trans (hb3.mono HB2.out.size))
  clear hb3 a0 a1 a2 a3 b0 b1 b2 b3
  go_wp2_with fail
  refine (C2.out _).mono ?_
  rintro e w4 ⟨rfl, hb4⟩
  have hB4 := HB3.out.trans (hb4.mono HB3.out.size)
  have hn4 : Below w4.heap.size w4 (w4.alloc (.cells #[.int .u32 0, .int .i64 0, .int .i64 0, .bool false] 24)) := (Below.refl _ _).alloc (Nat.le_refl _) _
  have HB4 := Lib.hid (hB4.trans (hn4.mono hB4.size))
  have hw4 := heap_alloc_new w4 (.cells #[.int .u32 0, .int .i64 0, .int .i64 0, .bool false] 24)
  have HW4 := Lib.hid hw4
  have hl4 := (Array.getElem?_eq_some_iff.1 hw4).1
  clear hb4 hn4 hB4 hw4
  go_wp2_with fail
  refine (AL.out _).mono ?_
  rintro e w5 ⟨rfl, hb5⟩
  have HB5 := Lib.hid (HB4.out.trans (hb5.mono HB4.out.size))
  obtain ⟨z0, z1, z2, z3, zf⟩ := zero_cells ((hb5.block _ hl4).trans HW4.out)
  clear hb5 hl4
  go_wp2
  go_ret
  exact ⟨rfl, HB5.out⟩

set_option maxHeartbeats 800000 in
theorem hback_ny (g : Nat) (c p : Int) (b : Bool) (s : List UInt8) (A : Nat) (w : World) (hg : g < 4294967296) (hA : A < 65536) (hs : s.length ≤ 200) (hok : Hm.okH g c p = false) (hd : Hm.decE s = 0) :
    Calls Try.prog 5 #[.agg #[.int .u32 (g : Int), .int .i64 c, .int .i64 p, .bool b], .string (Om.B s), .int .u16 (A : Int)] w fun e w' => e = .returned (.bool true) ∧ Below w.heap.size w w' := by
  have d1 : decide (200 < ((Om.B s).size : Int)) = false := by rw [Om.B_size]; simp; omega
  have AL := Lib.hid halive_any
  have HB0 : Hid (Below w.heap.size w (w.alloc (.cells #[.int .u32 (g : Int), .int .i64 c, .int .i64 p, .bool b] 24))) := (Below.refl _ _).alloc (Nat.le_refl _) _
  have BX0 := Lib.hid (bx_alloc w g c p b 24)
  obtain ⟨_, a0, a1, a2, a3⟩ := BX0.out
  have C1 := Lib.hid (fun w1 => henc_any g c p b w1 hg)
  rw [(Hm.enc_no b hok).1, (Hm.enc_no b hok).2] at C1
  unfold Hv at C1
  have hsl : s.length = 64 := (Sc.op_zero (Hm.dec_zero s hd).1).1
  obtain ⟨ha1, ha2⟩ := Hm.again s hd
  have C2 := Lib.hid (fun w1 => hdec_any s w1)
  unfold HDec decV at C2
  have C3 := Lib.hid (fun w1 => henc_right _ _ _ (Hm.decB s) w1 (Hm.decG_lt s) ha1)
  rw [ha2] at C3
  have R2 := Lib.hid (fun w1 => hright_any (Hm.decG s) (Hm.decC s) (Hm.decP s) (Hm.decB s) w1)
  rw [ha1] at R2
  rw [hd] at C2
  obtain ⟨j, hj⟩ : ∃ j, j = A / 8 % 64 := ⟨_, rfl⟩
  obtain ⟨m, hm⟩ : ∃ m, m = A % 8 := ⟨_, rfl⟩
  have hj64 : j < 64 := by rw [hj]; exact Nat.mod_lt _ (by omega)
  have hm8 : m < 8 := by rw [hm]; exact Nat.mod_lt _ (by omega)
  have hjn := place_int A hA
  rw [← hj] at hjn
  have hmn := bit_int A hA
  rw [← hm] at hmn
  obtain ⟨x2, T, p2, q2, y0, y, hjx, hx2, hxs, hxj, hy0, hxor, hxor2, hy, hep, heq, hTe, ho1, ho2, hT⟩ := head_turn s hd j m hj64 hm8
  have D2 := Lib.hid (fun w1 => hdec_zeros T 31 w1 hT (by decide))
  obtain ⟨G, hG⟩ : ∃ x, x = Hm.decG s := ⟨_, rfl⟩
  obtain ⟨C, hC⟩ : ∃ x, x = Hm.decC s := ⟨_, rfl⟩
  obtain ⟨P, hP⟩ : ∃ x, x = Hm.decP s := ⟨_, rfl⟩
  obtain ⟨B, hB⟩ : ∃ x, x = Hm.decB s := ⟨_, rfl⟩
  rw [← hG, ← hC, ← hP, ← hB] at C2 C3 R2
  unfold Hv at C2 C3 R2
  rw [← hx2] at C2 C3 d1 ⊢
  have hd64 : ((x2.size : Int) != 64) = false := by rw [hxs]; rfl
  have hidx : (((x2[j]'hjx).toNat : Nat) : Int) = (y0 : Int) := by rw [hxj]
  clear hg hs hok hA hsl ha1 ha2 hd hj hm hx2 hG hC hP hB hT
  go_enter Try.func5, Try.ntmps5
  go_wp2_with fail
  refine (C1.out _).mono ?_
  rintro e w1 ⟨rfl, hb1⟩
  have HB1 := Lib.hid (HB0.out.trans (hb1.mono HB0.out.size))
  have BX1 := Lib.hid (BX0.out.next hb1)
  clear hb1 a0 a1 a2 a3
  go_wp2_with fail
  refine (C2.out _).mono ?_
  rintro e w4 ⟨rfl, hb4⟩
  have hB4 := HB1.out.trans (hb4.mono HB1.out.size)
  have hn4 : Below w4.heap.size w4 (w4.alloc (.cells #[.int .u32 (G : Int), .int .i64 (C : Int), .int .i64 (P : Int), .bool B] 24)) := (Below.refl _ _).alloc (Nat.le_refl _) _
  have HB4 := Lib.hid (hB4.trans (hn4.mono hB4.size))
  have BY4 := Lib.hid (bx_alloc w4 G C P B 24)
  obtain ⟨_, b0, b1, b2, b3⟩ := BY4.out
  clear hb4 hn4 hB4
  go_wp2_with fail
  refine (C3.out _).mono ?_
  rintro e w5 ⟨rfl, hb5⟩
  have HB5 := Lib.hid (HB4.out.trans (hb5.mono HB4.out.size))
  have BY5 := Lib.hid (BY4.out.next hb5)
  clear hb5 b0 b1 b2 b3
  go_wp2
  have j0 : (0 : Int) ≤ (j : Int) := by omega
  have j1 : (j : Int) ≤ 64 := by omega
  have j2 : (0 : Int) ≤ (j : Int) + 1 := by omega
  have j3 : (j : Int) + 1 ≤ 64 := by omega
  have j4 : IntKind.i64.wrap ((j : Int) + 1) = (j : Int) + 1 := IntWalk.i64_in _ (by omega)
  have j5 : (j : Int) < 64 := by omega
  have hcv := str_drew w5 y hy
  go_region
  obtain ⟨W6, hW6⟩ : ∃ W, (w5.alloc (.cells #[.int .u8 (y : Int)] 5)).drew = W := ⟨_, rfl⟩
  have hb6 : Below w5.heap.size w5 W6 := by rw [← hW6]; exact ((Below.refl _ _).alloc (Nat.le_refl _) _).drew
  rw [hW6]
  have HB6 := Lib.hid (HB5.out.trans (hb6.mono HB5.out.size))
  have BY6 := Lib.hid (BY5.out.next hb6)
  clear hcv hep heq hTe ho1 ho2 hxj hxor hxor2 hidx hW6 hb6
  go_wp2_with fail
  refine (D2.out _).mono ?_
  rintro e w7 ⟨rfl, hb7⟩
  have hB7 := HB6.out.trans (hb7.mono HB6.out.size)
  have hn7 : Below w7.heap.size w7 (w7.alloc (.cells #[.int .u32 0, .int .i64 0, .int .i64 0, .bool false] 24)) := (Below.refl _ _).alloc (Nat.le_refl _) _
  have HB7 := Lib.hid (hB7.trans (hn7.mono hB7.size))
  have BY7 := Lib.hid ((BY6.out.next hb7).next hn7)
  clear hb7 hn7 hB7
  go_wp2_with fail
  refine (AL.out _).mono ?_
  rintro e w8 ⟨rfl, hb8⟩
  have HB8 := Lib.hid (HB7.out.trans (hb8.mono HB7.out.size))
  obtain ⟨_, b0, b1, b2, b3⟩ := BY7.out.next hb8
  clear hb8
  go_wp2_with fail
  refine (R2.out _).mono ?_
  rintro e w9 ⟨rfl, hb9⟩
  have HB9 := Lib.hid (HB8.out.trans (hb9.mono HB8.out.size))
  clear hb9
  go_wp2
  go_ret
  exact ⟨rfl, HB9.out⟩

set_option maxHeartbeats 800000 in
theorem hback_yy (g : Nat) (c p : Int) (b : Bool) (s : List UInt8) (A : Nat) (w : World) (hg : g < 4294967296) (hA : A < 65536) (hs : s.length ≤ 200) (hok : Hm.okH g c p = true) (hd : Hm.decE s = 0) :
    Calls Try.prog 5 #[.agg #[.int .u32 (g : Int), .int .i64 c, .int .i64 p, .bool b], .string (Om.B s), .int .u16 (A : Int)] w fun e w' => e = .returned (.bool true) ∧ Below w.heap.size w w' := by
  have d1 : decide (200 < ((Om.B s).size : Int)) = false := by rw [Om.B_size]; simp; omega
  have AL := Lib.hid halive_any
  have HB0 : Hid (Below w.heap.size w (w.alloc (.cells #[.int .u32 (g : Int), .int .i64 c, .int .i64 p, .bool b] 24))) := (Below.refl _ _).alloc (Nat.le_refl _) _
  have BX0 := Lib.hid (bx_alloc w g c p b 24)
  obtain ⟨_, a0, a1, a2, a3⟩ := BX0.out
  have C1 := Lib.hid (fun w1 => henc_right g c p b w1 hg hok)
  have D1 := Lib.hid (fun w1 => hdec_back g c p b w1 hg hok)
  have R1 := Lib.hid (fun w1 => hright_any g c p b w1)
  rw [hok] at R1
  have hxl := Hm.sector_len g c p b
  obtain ⟨x, hx⟩ : ∃ x, x = Om.B (Hm.sector g c p b) := ⟨_, rfl⟩
  have h64 : ((x.size : Int) != 64) = false := by rw [hx, Om.B_size, hxl]; rfl
  rw [← hx] at C1 D1
  unfold Hv at C1 D1 R1
  have hsl : s.length = 64 := (Sc.op_zero (Hm.dec_zero s hd).1).1
  obtain ⟨ha1, ha2⟩ := Hm.again s hd
  have C2 := Lib.hid (fun w1 => hdec_any s w1)
  unfold HDec decV at C2
  have C3 := Lib.hid (fun w1 => henc_right _ _ _ (Hm.decB s) w1 (Hm.decG_lt s) ha1)
  rw [ha2] at C3
  have R2 := Lib.hid (fun w1 => hright_any (Hm.decG s) (Hm.decC s) (Hm.decP s) (Hm.decB s) w1)
  rw [ha1] at R2
  rw [hd] at C2
  obtain ⟨j, hj⟩ : ∃ j, j = A / 8 % 64 := ⟨_, rfl⟩
  obtain ⟨m, hm⟩ : ∃ m, m = A % 8 := ⟨_, rfl⟩
  have hj64 : j < 64 := by rw [hj]; exact Nat.mod_lt _ (by omega)
  have hm8 : m < 8 := by rw [hm]; exact Nat.mod_lt _ (by omega)
  have hjn := place_int A hA
  rw [← hj] at hjn
  have hmn := bit_int A hA
  rw [← hm] at hmn
  obtain ⟨x2, T, p2, q2, y0, y, hjx, hx2, hxs, hxj, hy0, hxor, hxor2, hy, hep, heq, hTe, ho1, ho2, hT⟩ := head_turn s hd j m hj64 hm8
  have D2 := Lib.hid (fun w1 => hdec_zeros T 31 w1 hT (by decide))
  obtain ⟨G, hG⟩ : ∃ x, x = Hm.decG s := ⟨_, rfl⟩
  obtain ⟨C, hC⟩ : ∃ x, x = Hm.decC s := ⟨_, rfl⟩
  obtain ⟨P, hP⟩ : ∃ x, x = Hm.decP s := ⟨_, rfl⟩
  obtain ⟨B, hB⟩ : ∃ x, x = Hm.decB s := ⟨_, rfl⟩
  rw [← hG, ← hC, ← hP, ← hB] at C2 C3 R2
  unfold Hv at C2 C3 R2
  rw [← hx2] at C2 C3 d1 ⊢
  have hd64 : ((x2.size : Int) != 64) = false := by rw [hxs]; rfl
  have hidx : (((x2[j]'hjx).toNat : Nat) : Int) = (y0 : Int) := by rw [hxj]
  clear hg hs hok hA hxl hx hsl ha1 ha2 hd hj hm hx2 hG hC hP hB hT
  go_enter Try.func5, Try.ntmps5
  go_wp2_with fail
  refine (C1.out _).mono ?_
  rintro e w1 ⟨rfl, hb1⟩
  have HB1 := Lib.hid (HB0.out.trans (hb1.mono HB0.out.size))
  have BX1 := Lib.hid (BX0.out.next hb1)
  clear hb1 a0 a1 a2 a3
  go_wp2_with fail
  refine (D1.out _).mono ?_
  rintro e w2 ⟨rfl, hb2⟩
  have hB2 := HB1.out.trans (hb2.mono HB1.out.size)
  have BX2 := Lib.hid (BX1.out.next hb2)
  have hn2 : Below w2.heap.size w2 (w2.alloc (.cells #[.int .u32 (g : Int), .int .i64 c, .int .i64 p, .bool b] 24)) := (Below.refl _ _).alloc (Nat.le_refl _) _
  have HB2 := Lib.hid (hB2.trans (hn2.mono hB2.size))
  obtain ⟨_, a0, a1, a2, a3⟩ := BX2.out.next hn2
  obtain ⟨_, b0, b1, b2, b3⟩ := bx_alloc w2 g c p b 24
  clear hb2 hn2 hB2
  go_wp2_with fail
  refine (R1.out _).mono ?_
  rintro e w3 ⟨rfl, hb3⟩
  have HB3 := Lib.hid (HB2.out.trans (hb3.mono HB2.out.size))
  clear hb3 a0 a1 a2 a3 b0 b1 b2 b3
  go_wp2_with fail
  refine (C2.out _).mono ?_
  rintro e w4 ⟨rfl, hb4⟩
  have hB4 := HB3.out.trans (hb4.mono HB3.out.size)
  have hn4 : Below w4.heap.size w4 (w4.alloc (.cells #[.int .u32 (G : Int), .int .i64 (C : Int), .int .i64 (P : Int), .bool B] 24)) := (Below.refl _ _).alloc (Nat.le_refl _) _
  have HB4 := Lib.hid (hB4.trans (hn4.mono hB4.size))
  have BY4 := Lib.hid (bx_alloc w4 G C P B 24)
  obtain ⟨_, b0, b1, b2, b3⟩ := BY4.out
  clear hb4 hn4 hB4
  go_wp2_with fail
  refine (C3.out _).mono ?_
  rintro e w5 ⟨rfl, hb5⟩
  have HB5 := Lib.hid (HB4.out.trans (hb5.mono HB4.out.size))
  have BY5 := Lib.hid (BY4.out.next hb5)
  clear hb5 b0 b1 b2 b3
  go_wp2
  have j0 : (0 : Int) ≤ (j : Int) := by omega
  have j1 : (j : Int) ≤ 64 := by omega
  have j2 : (0 : Int) ≤ (j : Int) + 1 := by omega
  have j3 : (j : Int) + 1 ≤ 64 := by omega
  have j4 : IntKind.i64.wrap ((j : Int) + 1) = (j : Int) + 1 := IntWalk.i64_in _ (by omega)
  have j5 : (j : Int) < 64 := by omega
  have hcv := str_drew w5 y hy
  go_region
  obtain ⟨W6, hW6⟩ : ∃ W, (w5.alloc (.cells #[.int .u8 (y : Int)] 5)).drew = W := ⟨_, rfl⟩
  have hb6 : Below w5.heap.size w5 W6 := by rw [← hW6]; exact ((Below.refl _ _).alloc (Nat.le_refl _) _).drew
  rw [hW6]
  have HB6 := Lib.hid (HB5.out.trans (hb6.mono HB5.out.size))
  have BY6 := Lib.hid (BY5.out.next hb6)
  clear hcv hep heq hTe ho1 ho2 hxj hxor hxor2 hidx hW6 hb6
  go_wp2_with fail
  refine (D2.out _).mono ?_
  rintro e w7 ⟨rfl, hb7⟩
  have hB7 := HB6.out.trans (hb7.mono HB6.out.size)
  have hn7 : Below w7.heap.size w7 (w7.alloc (.cells #[.int .u32 0, .int .i64 0, .int .i64 0, .bool false] 24)) := (Below.refl _ _).alloc (Nat.le_refl _) _
  have HB7 := Lib.hid (hB7.trans (hn7.mono hB7.size))
  have BY7 := Lib.hid ((BY6.out.next hb7).next hn7)
  clear hb7 hn7 hB7
  go_wp2_with fail
  refine (AL.out _).mono ?_
  rintro e w8 ⟨rfl, hb8⟩
  have HB8 := Lib.hid (HB7.out.trans (hb8.mono HB7.out.size))
  obtain ⟨_, b0, b1, b2, b3⟩ := BY7.out.next hb8
  clear hb8
  go_wp2_with fail
  refine (R2.out _).mono ?_
  rintro e w9 ⟨rfl, hb9⟩
  have HB9 := Lib.hid (HB8.out.trans (hb9.mono HB8.out.size))
  clear hb9
  go_wp2
  go_ret
  exact ⟨rfl, HB9.out⟩

/-- The statement's walk. -/
theorem hback_any (g : Nat) (c p : Int) (b : Bool) (s : List UInt8) (A : Nat) (w : World) (hg : g < 4294967296) (hA : A < 65536) :
    Calls Try.prog 5 #[.agg #[.int .u32 (g : Int), .int .i64 c, .int .i64 p, .bool b], .string (Om.B s), .int .u16 (A : Int)] w fun e w' => e = .returned (.bool true) ∧ Below w.heap.size w w' := by
  by_cases h : 200 < s.length
  · exact hback_long g c p b s A w h
  · by_cases hd : Hm.decE s = 0
    · cases hok : Hm.okH g c p with
      | false => exact hback_ny g c p b s A w hg hA (by omega) hok hd
      | true => exact hback_yy g c p b s A w hg hA (by omega) hok hd
    · cases hok : Hm.okH g c p with
      | false => exact hback_nn g c p b s A w hg hA (by omega) hok hd
      | true => exact hback_yn g c p b s A w hg hA (by omega) hok hd
end Go.Proofs.Ytpocafiihdnnlaa
