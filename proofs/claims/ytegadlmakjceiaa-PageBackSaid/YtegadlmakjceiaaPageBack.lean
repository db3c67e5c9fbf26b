/- The walk of the statement PageBack. -/
import Derived.Test.YtegadlmakjceiaaPageAlive
import Derived.RegionTactic
namespace Go.Proofs.Ytegadlmakjceiaa
open Go.RowKit
set_option linter.unusedVariables false

theorem str_drew (W : World) (y : Nat) (hy : y < 256) : (convert 34 9 (.slice (some ⟨W.heap.size, 0, none⟩) 1 1)).run Try.prog (W.alloc (.cells #[.int .u8 (y : Int)] 5)).drew = .ok (.string (Om.B [UInt8.ofNat y])) (W.alloc (.cells #[.int .u8 (y : Int)] 5)).drew := by
  have e : (y : Int) = ((UInt8.ofNat y).toNat : Int) := by rw [UInt8.toNat_ofNat']; omega
  rw [e]
  exact run_convert_bytes_back (P := Try.prog) (W.alloc (.cells #[.int .u8 ((UInt8.ofNat y).toNat : Int)] 5)).drew 34 9 5 ⟨W.heap.size, 0, none⟩ 1 [UInt8.ofNat y] Try.underlying34 Try.underlying5 Try.underlying9 (fun i hi => by
    have : i = 0 := by simpa using hi
    subst this
    simp [Addr.add])
/-- What is known of a sector, and of that with a byte turned. -/
theorem turn_parts (g : Nat) (ls : List Int) : ∃ (s : ByteArray) (T p q : List UInt8) (y0 y : Nat) (h9 : 9 < s.size), s = Om.B (Pm.sector g ls) ∧ s.size = 64 ∧ (s[9]'h9).toNat = y0 ∧ y0 < 256 ∧ bits .xor .u8 (y0 : Int) 4 = (y : Int) ∧ y < 256 ∧
    s.extract 0 9 = Om.B p ∧ s.extract 10 64 = Om.B q ∧ (Om.B p ++ Om.B [UInt8.ofNat y]) ++ Om.B q = Om.B T ∧
    ¬ 9223372036854775807 < (Om.B p).size + (Om.B [UInt8.ofNat y]).size ∧ ¬ 9223372036854775807 < (Om.B p ++ Om.B [UInt8.ofNat y]).size + (Om.B q).size ∧ Pm.decE T = 31 := by
  have hl := Pm.sector_len g ls
  obtain ⟨S, hS⟩ : ∃ S, S = Pm.sector g ls := ⟨_, rfl⟩
  have h9 : 9 < S.length := by rw [hS, hl]; omega
  have hsl : S.length = 64 := by rw [hS, hl]
  have hy0 : (S[9]'h9).toNat < 256 := UInt8.toNat_lt _
  have hy : (S[9]'h9).toNat ^^^ 4 < 256 := Nat.xor_lt_two_pow (n := 8) hy0 (by omega)
  have e := Om.extract_end (Om.B S) 10
  rw [show (Om.B S).size = 64 from hsl, Om.L_B] at e
  refine ⟨Om.B S, S.set 9 (UInt8.ofNat ((S[9]'h9).toNat ^^^ 4)), S.take 9, S.drop 10, (S[9]'h9).toNat, (S[9]'h9).toNat ^^^ 4, h9, by rw [hS], hsl, rfl, hy0, u8_xor_nat _ 4 hy0 (by omega), hy, ?_, e, ?_, ?_, ?_, ?_⟩
  · rw [Om.extract_front, Om.L_B]
  · rw [Om.B_append, Om.B_append, List.set_eq_take_append_cons_drop, if_pos h9, List.append_assoc]
    rfl
  · exact no_over _ _ (by rw [List.length_take]; simp; omega)
  · rw [Om.B_append]
    exact no_over _ _ (by rw [List.length_append, List.length_take, List.length_drop]; simp; omega)
  · subst hS
    refine Pm.turned g ls 9 (by omega) _ ?_
    rw [List.getElem?_eq_getElem h9]
    intro c
    injection c with c
    have c2 : (UInt8.ofNat (((Pm.sector g ls)[9]'h9).toNat ^^^ 4)).toNat = ((Pm.sector g ls)[9]'h9).toNat := by rw [← c]
    rw [UInt8.toNat_ofNat', Nat.mod_eq_of_lt hy] at c2
    have c3 : ((Pm.sector g ls)[9]'h9).toNat ^^^ 4 = ((Pm.sector g ls)[9]'h9).toNat ^^^ 0 := by rw [c2, Nat.xor_zero]
    have := Cm.xor_left c3
    omega
theorem pdec_turned (T : List UInt8) (w : World) (h : Pm.decE T = 31) : Calls Try.prog 9 #[.string (Om.B T)] w fun e w' => ∃ x v, e = .returned (.tuple #[x, v, .int .i64 31]) ∧ Below w.heap.size w w' :=
  (pdec_any T w).mono fun e w' ⟨a, n, c, he, hn, hr, hb⟩ => by
    rw [h] at he
    exact ⟨_, _, he, hb⟩

theorem back_long (g : Nat) (a : Option Addr) (n c : Nat) (s : List UInt8) (w : World) (hn : n ≤ 9223372036854775807) (h : 30 < n ∨ 200 < s.length) :
    Calls Try.prog 5 #[.int .u32 (g : Int), .slice a n c, .string (Om.B s)] w fun e w' => e = .returned (.bool true) ∧ Below w.heap.size w w' := by
  by_cases h1 : 30 < n
  · have d1 : decide (30 < (n : Int)) = true := by simp; omega
    clear h
    go_enter Try.func5, Try.ntmps5
    go_wp2_with fail
    refine (alive_any _).mono ?_
    rintro e w1 ⟨rfl, hb1⟩
    have HB := Lib.hid hb1
    clear hb1
    go_wp2
    go_ret
    exact ⟨rfl, HB.out⟩
  · have d1 : decide (30 < (n : Int)) = false := by simp; omega
    have d2 : decide (200 < ((Om.B s).size : Int)) = true := by rw [Om.B_size]; simp; omega
    clear h
    go_enter Try.func5, Try.ntmps5
    go_wp2_with fail
    refine (alive_any _).mono ?_
    rintro e w1 ⟨rfl, hb1⟩
    have HB := Lib.hid hb1
    clear hb1
    go_wp2
    go_ret
    exact ⟨rfl, HB.out⟩

/-- What any bytes are decoded to has them. -/
theorem tail_case (s : List UInt8) : (Pm.decE s != 0) = true ∨ ((Pm.decE s != 0) = false ∧ Pm.encE (Pm.decL s) = 0 ∧ Pm.encS (Pm.decG s) (Pm.decL s) = s) := by
  by_cases h : Pm.decE s = 0
  · obtain ⟨h1, h2⟩ := Pm.again s h
    obtain ⟨h3, h4⟩ := Pm.enc_ok (Pm.decG s) (Pm.decL s) h1
    exact .inr ⟨by rw [h]; rfl, h4, by rw [h3, h2]⟩
  · exact .inl (by rw [bne_iff_ne]; exact h)
theorem decL_le (s : List UInt8) : (Pm.decL s).length ≤ 13 := by
  unfold Pm.decL
  split
  · rw [Pm.vals_len]; omega
  · simp

set_option maxHeartbeats 800000 in
theorem back_no (g : Nat) (ls : List Int) (a : Option Addr) (n c : Nat) (s : List UInt8) (w : World) (hg : g < 4294967296) (hl : ls.length = n) (hn : n ≤ 30) (hs : s.length ≤ 200) (hr : Row w w.heap.size a n (szs ls)) (hok : Pm.okL ls = false) :
    Calls Try.prog 5 #[.int .u32 (g : Int), .slice a n c, .string (Om.B s)] w fun e w' => e = .returned (.bool true) ∧ Below w.heap.size w w' := by
  have d1 : decide (30 < (n : Int)) = false := by simp; omega
  have d2 : decide (200 < ((Om.B s).size : Int)) = false := by rw [Om.B_size]; simp; omega
  have hc1 := fun c' w1 => penc_any g ls w.heap.size a n c' w1 hg hl (by omega)
  rw [(Pm.enc_no g ls hok).1, (Pm.enc_no g ls hok).2] at hc1
  have C1 := Lib.hid hc1
  have HR := Lib.hid hr
  have C2 := Lib.hid (pdec_any s)
  unfold DecIs at C2
  have hG := Pm.decG_lt s
  have C3 := Lib.hid (fun a n c w1 (h : (Pm.decL s).length = n) (hr : Row w1 w1.heap.size a n (szs (Pm.decL s))) => penc_any (Pm.decG s) (Pm.decL s) w1.heap.size a n c w1 hG h (by have := decL_le s; omega) (Nat.le_refl _) hr)
  have hcase := tail_case s
  obtain ⟨E, hE⟩ : ∃ E, E = Pm.decE s := ⟨_, rfl⟩
  obtain ⟨G, hGe⟩ : ∃ G, G = Pm.decG s := ⟨_, rfl⟩
  obtain ⟨ms, hms⟩ : ∃ ms, ms = Pm.decL s := ⟨_, rfl⟩
  rw [← hE, ← hGe, ← hms] at hcase
  rw [← hE, ← hGe, ← hms] at C2
  rw [← hGe, ← hms] at C3
  obtain ⟨E2, hE2⟩ : ∃ E2, E2 = Pm.encE ms := ⟨_, rfl⟩
  obtain ⟨S2, hS2⟩ : ∃ S2, S2 = Pm.encS G ms := ⟨_, rfl⟩
  rw [← hE2, ← hS2] at hcase C3
  clear hc1 hr hl hn hs hok hE hGe hms hE2 hS2 hG
  go_enter Try.func5, Try.ntmps5
  go_wp2_with fail
  refine (C1.out _ _ (Nat.le_refl _) HR.out).mono ?_
  rintro e w1 ⟨rfl, hb1⟩
  have HB1 := Lib.hid hb1
  clear hb1
  go_wp2_with fail
  refine (C2.out _).mono ?_
  rintro e w2 ⟨a2, n2, c2, rfl, hn2, hr2, hb2⟩
  have HR2 := Lib.hid hr2
  have HN2 := Lib.hid hn2
  have HB2 := Lib.hid (HB1.out.trans (hb2.mono HB1.out.size))
  clear hb2 hr2 hn2
  go_wp2_with fail
  refine (C3.out _ _ _ _ HN2.out.symm HR2.out).mono ?_
  rintro e w3 ⟨rfl, hb3⟩
  have HB3 := Lib.hid (HB2.out.trans (hb3.mono HB2.out.size))
  clear hb3
  go_wp2_with fail
  refine (alive_any _).mono ?_
  rintro e w4 ⟨rfl, hb4⟩
  have HB4 := Lib.hid (HB3.out.trans (hb4.mono HB3.out.size))
  clear hb4
  rcases hcase with hc | ⟨hc, rfl, rfl⟩
  · go_wp2
    go_ret
    exact ⟨rfl, HB4.out⟩
  · go_wp2
    go_ret
    exact ⟨rfl, HB4.out⟩

set_option maxHeartbeats 800000 in
theorem back_ok (g : Nat) (ls : List Int) (a : Option Addr) (c : Nat) (s : List UInt8) (w : World) (hg : g < 4294967296) (hs : s.length ≤ 200) (hr : Row w w.heap.size a 13 (szs ls)) (hok : Pm.okL ls = true) :
    Calls Try.prog 5 #[.int .u32 (g : Int), .slice a 13 c, .string (Om.B s)] w fun e w' => e = .returned (.bool true) ∧ Below w.heap.size w w' := by
  have d2 : decide (200 < ((Om.B s).size : Int)) = false := by rw [Om.B_size]; simp; omega
  have C1 := Lib.hid (fun c' w1 => penc_ok g ls w.heap.size a c' w1 hg hok)
  have D1 := Lib.hid (fun w1 => pdec_back g ls w1 hg hok)
  unfold DecOk at D1
  have HR := Lib.hid hr
  have C2 := Lib.hid (pdec_any s)
  unfold DecIs at C2
  have hG := Pm.decG_lt s
  have C3 := Lib.hid (fun a n c w1 (h : (Pm.decL s).length = n) (hr : Row w1 w1.heap.size a n (szs (Pm.decL s))) => penc_any (Pm.decG s) (Pm.decL s) w1.heap.size a n c w1 hG h (by have := decL_le s; omega) (Nat.le_refl _) hr)
  have hcase := tail_case s
  obtain ⟨E, hE⟩ : ∃ E, E = Pm.decE s := ⟨_, rfl⟩
  obtain ⟨G, hGe⟩ : ∃ G, G = Pm.decG s := ⟨_, rfl⟩
  obtain ⟨ms, hms⟩ : ∃ ms, ms = Pm.decL s := ⟨_, rfl⟩
  rw [← hE, ← hGe, ← hms] at hcase
  rw [← hE, ← hGe, ← hms] at C2
  rw [← hGe, ← hms] at C3
  obtain ⟨E2, hE2⟩ : ∃ E2, E2 = Pm.encE ms := ⟨_, rfl⟩
  obtain ⟨S2, hS2⟩ : ∃ S2, S2 = Pm.encS G ms := ⟨_, rfl⟩
  rw [← hE2, ← hS2] at hcase C3
  obtain ⟨x, T, p, q, y0, y, h9, hx, hxs, hx9, hy0, hxor, hy, hep, heq, hTe, ho1, ho2, hT⟩ := turn_parts g ls
  have D2 := Lib.hid (fun w1 => pdec_turned T w1 hT)
  rw [← hx] at C1 D1
  have h64 : ((x.size : Int) != 64) = false := by rw [hxs]; rfl
  have hgg : ((g : Int) != (g : Int)) = false := by simp
  have hidx : (((x[9]'h9).toNat : Nat) : Int) = (y0 : Int) := by rw [hx9]
  clear hr hs hok hE hGe hms hE2 hS2 hG hT hx
  go_enter Try.func5, Try.ntmps5
  go_wp2_with fail
  refine (C1.out _ _ (Nat.le_refl _) HR.out).mono ?_
  rintro e w1 ⟨rfl, hb1⟩
  have HB1 := Lib.hid hb1
  clear hb1
  go_wp2_with fail
  refine (D1.out _).mono ?_
  rintro e w2 ⟨a2, c2, rfl, hr2, hb2⟩
  have HR2 := Lib.hid hr2
  have HB2 := Lib.hid (HB1.out.trans (hb2.mono HB1.out.size))
  clear hb2 hr2
  go_wp2
  have hcv := str_drew w2 y hy
  go_region
  clear hcv hep heq hTe ho1 ho2 hx9 hxor hidx
  go_wp2_with fail
  refine (D2.out _).mono ?_
  rintro e w3 ⟨x3, v3, rfl, hb3⟩
  have hb3' : Below w2.heap.size w2 w3 := below_call ⟨hb3.os, hb3.tape, hb3.output, hb3.size, hb3.block⟩
  have HB3 := Lib.hid (HB2.out.trans (hb3'.mono HB2.out.size))
  have HR23 := Lib.hid (HR2.out.below hb3')
  have HR13 := Lib.hid (HR.out.below HB3.out)
  clear hb3 hb3'
  go_wp2_with fail
  refine (psame_yes ls _ _ _ _ 13 _ _ _ (by omega) HR13.out HR23.out).mono ?_
  rintro e w4 ⟨rfl, d, rfl⟩
  have HB4 := Lib.hid (below_drewN HB3.out d)
  obtain ⟨W4, hW4⟩ : ∃ W, w3.drewN d = W := ⟨_, rfl⟩
  rw [hW4] at HB4 ⊢
  clear hW4
  go_wp2_with fail
  refine (C2.out _).mono ?_
  rintro e w5 ⟨a5, n5, c5, rfl, hn5, hr5, hb5⟩
  have HR5 := Lib.hid hr5
  have HN5 := Lib.hid hn5
  have HB5 := Lib.hid (HB4.out.trans (hb5.mono HB4.out.size))
  clear hb5 hr5 hn5
  go_wp2_with fail
  refine (C3.out _ _ _ _ HN5.out.symm HR5.out).mono ?_
  rintro e w6 ⟨rfl, hb6⟩
  have HB6 := Lib.hid (HB5.out.trans (hb6.mono HB5.out.size))
  clear hb6
  go_wp2_with fail
  refine (alive_any _).mono ?_
  rintro e w7 ⟨rfl, hb7⟩
  have HB7 := Lib.hid (HB6.out.trans (hb7.mono HB6.out.size))
  clear hb7
  rcases hcase with hc | ⟨hc, rfl, rfl⟩
  · go_wp2
    go_ret
    exact ⟨rfl, HB7.out⟩
  · go_wp2
    go_ret
    exact ⟨rfl, HB7.out⟩
/-- The statement's walk. -/
theorem back_any (g : Nat) (ls : List Int) (a : Option Addr) (n c : Nat) (s : List UInt8) (w : World) (hg : g < 4294967296) (hl : ls.length = n) (hn : n ≤ 9223372036854775807) (hr : Row w w.heap.size a n (szs ls)) :
    Calls Try.prog 5 #[.int .u32 (g : Int), .slice a n c, .string (Om.B s)] w fun e w' => e = .returned (.bool true) ∧ Below w.heap.size w w' := by
  by_cases h : 30 < n ∨ 200 < s.length
  · exact back_long g a n c s w hn h
  · cases hok : Pm.okL ls with
    | false => exact back_no g ls a n c s w hg hl (by omega) (by omega) hr hok
    | true =>
      have h13 := ((Pm.okL_iff ls).1 hok).1
      have e : n = 13 := by omega
      subst e
      exact back_ok g ls a c s w hg (by omega) hr hok
end Go.Proofs.Ytegadlmakjceiaa
