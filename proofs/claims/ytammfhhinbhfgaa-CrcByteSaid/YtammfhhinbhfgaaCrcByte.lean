/- The walk of the statement CrcByte. -/
import Derived.Test.YtammfhhinbhfgaaCrcOpen
import Derived.RegionTactic
import Derived.Deep.RegionHeld3
namespace Go.Proofs.Ytammfhhinbhfgaa
open Go.RowKit
set_option linter.unusedVariables false

theorem byte_long (l : List UInt8) (z : Int) (x y : Nat) (w : World) (h : 200 < l.length ∨ 400 < z) :
    Calls Try.prog 3 #[.string (Om.B l), .int .i64 z, .agg #[.int .u8 (x : Int), .int .u8 (y : Int)]] w fun e w' => e = .returned (.bool true) ∧ Below w.heap.size w w' := by
  by_cases h1 : 200 < l.length
  · have d1 : decide (200 < ((Om.B l).size : Int)) = true := by rw [Om.B_size]; simp; omega
    clear h h1
    go_enter Try.func3, Try.ntmps3
    go_wp2_with fail
    refine (alive_any _).mono ?_
    rintro e w1 ⟨rfl, hb1⟩
    have HB := Lib.hid hb1
    clear hb1
    go_wp2
    go_ret
    exact ⟨rfl, below_call HB.out⟩
  · have d1 : decide (200 < ((Om.B l).size : Int)) = false := by rw [Om.B_size]; simp; omega
    have d2 : decide (400 < z) = true := by simp; omega
    clear h h1
    go_enter Try.func3, Try.ntmps3
    go_wp2_with fail
    refine (alive_any _).mono ?_
    rintro e w1 ⟨rfl, hb1⟩
    have HB := Lib.hid hb1
    clear hb1
    go_wp2
    go_ret
    exact ⟨rfl, below_call HB.out⟩
theorem byte_no (l : List UInt8) (z : Int) (x y : Nat) (w : World) (hl : l.length ≤ 200) (hz : z ≤ 400) (h : z < 4 ∨ z - 4 < l.length) :
    Calls Try.prog 3 #[.string (Om.B l), .int .i64 z, .agg #[.int .u8 (x : Int), .int .u8 (y : Int)]] w fun e w' => e = .returned (.bool true) ∧ Below w.heap.size w w' := by
  have d1 : decide (200 < ((Om.B l).size : Int)) = false := by rw [Om.B_size]; simp; omega
  have d2 : decide (400 < z) = false := by simp; omega
  obtain ⟨r, hr, hc⟩ : ∃ r : Int, (r != 0) = true ∧ ∀ w, Calls Try.prog 6 #[.string (Om.B l), .int .i64 z] w fun e w' => e = .returned (.tuple #[.string (Om.B []), .int .i64 r]) ∧ w = w' := by
    by_cases h4 : z < 4
    · exact ⟨1, rfl, fun w => seal_arg l z w (by omega)⟩
    · obtain ⟨k, rfl⟩ : ∃ k : Nat, z = ((k + 4 : Nat) : Int) := ⟨(z - 4).toNat, by omega⟩
      exact ⟨2, rfl, fun w => seal_long l k w (by omega) (by omega)⟩
  have HC := Lib.hid hc
  have hemp : (Om.B []).toList.isEmpty = true := by rw [Lib.toList_data]; rfl
  clear hc hl hz h
  go_enter Try.func3, Try.ntmps3
  go_wp2_with fail
  refine (HC.out _).mono ?_
  rintro e w' ⟨rfl, rfl⟩
  go_wp2_with fail
  refine (alive_any _).mono ?_
  rintro e w1 ⟨rfl, hb1⟩
  have HB := Lib.hid hb1
  clear hb1
  go_wp2
  go_ret
  exact ⟨rfl, below_call HB.out⟩

/-- What is known of the sealed bytes, and of those with one byte in the place of another one. -/
theorem byte_parts (l : List UInt8) (k : Nat) (j y : Nat) (h : l.length ≤ k) (hk : k ≤ 1000) (hj : j < k + 4) : ∃ s t T p q, s = Om.B (sealed l k) ∧ t = Om.B (padTo l k) ∧ T = (sealed l k).set j (UInt8.ofNat y) ∧
    s.size = k + 4 ∧ t.size = k ∧ t.extract 0 (Om.B l).size = Om.B l ∧ s.extract 0 j = Om.B p ∧ s.extract (j + 1) (k + 4) = Om.B q ∧ (Om.B p ++ Om.B [UInt8.ofNat y]) ++ Om.B q = Om.B T ∧
    ¬ 9223372036854775807 < (Om.B p).size + (Om.B [UInt8.ofNat y]).size ∧ ¬ 9223372036854775807 < (Om.B p ++ Om.B [UInt8.ofNat y]).size + (Om.B q).size ∧ T.length = k + 4 ∧ (T = sealed l k ∨ Cm.good T = false) := by
  have hp := padTo_length l k h
  have hsl : (sealed l k).length = k + 4 := by unfold sealed; rw [List.length_append, hp, Cm.four_length]
  have e := Om.extract_end (Om.B (sealed l k)) (j + 1)
  rw [show (Om.B (sealed l k)).size = k + 4 from hsl, Om.L_B] at e
  refine ⟨_, _, _, (sealed l k).take j, (sealed l k).drop (j + 1), rfl, rfl, rfl, hsl, hp, ?_, ?_, e, ?_, ?_, ?_, ?_, ?_⟩
  · rw [Om.extract_front, Om.L_B, Om.B_size]; unfold padTo; rw [List.take_left]
  · rw [Om.extract_front, Om.L_B]
  · rw [Om.B_append, Om.B_append, List.set_eq_take_append_cons_drop, if_pos (by omega), List.append_assoc]
    rfl
  · exact no_over _ _ (by rw [List.length_take]; simp; omega)
  · rw [Om.B_append]
    exact no_over _ _ (by rw [List.length_append, List.length_take, List.length_drop]; simp; omega)
  · rw [List.length_set]; exact hsl
  · cases hg : Cm.good ((sealed l k).set j (UInt8.ofNat y)) with
    | false => exact .inr rfl
    | true => exact .inl (Cm.good_set (padTo l k) j _ (by rw [hp]; exact hj) hg)
theorem str_drew (W : World) (y : Nat) (hy : y < 256) : (convert 28 9 (.slice (some ⟨W.heap.size, 0, none⟩) 1 1)).run Try.prog (W.alloc (.cells #[.int .u8 (y : Int)] 5)).drew = .ok (.string (Om.B [UInt8.ofNat y])) (W.alloc (.cells #[.int .u8 (y : Int)] 5)).drew := by
  have e : (y : Int) = ((UInt8.ofNat y).toNat : Int) := by rw [UInt8.toNat_ofNat']; omega
  rw [e]
  exact run_convert_bytes_back (P := Try.prog) (W.alloc (.cells #[.int .u8 ((UInt8.ofNat y).toNat : Int)] 5)).drew 28 9 5 ⟨W.heap.size, 0, none⟩ 1 [UInt8.ofNat y] Try.underlying28 Try.underlying5 Try.underlying9 (fun i hi => by
    have : i = 0 := by simpa using hi
    subst this
    simp [Addr.add])
theorem byte_ok (l : List UInt8) (k x y : Nat) (w : World) (hl : l.length ≤ 200) (hk : k + 4 ≤ 400) (h : l.length ≤ k) (hx : x < 256) (hy : y < 256) :
    Calls Try.prog 3 #[.string (Om.B l), .int .i64 ((k + 4 : Nat) : Int), .agg #[.int .u8 (x : Int), .int .u8 (y : Int)]] w fun e w' => e = .returned (.bool true) ∧ Below w.heap.size w w' := by
  have d1 : decide (200 < ((Om.B l).size : Int)) = false := by rw [Om.B_size]; simp; omega
  have hseal : ∀ w, Calls Try.prog 6 #[.string (Om.B l), .int .i64 ((k + 4 : Nat) : Int)] w fun e w' => e = .returned (.tuple #[.string (Om.B (sealed l k)), .int .i64 0]) ∧ Below w.heap.size w w' := fun w => seal_ok l k w (by omega) h
  have hopen : ∀ w, Calls Try.prog 7 #[.string (Om.B (sealed l k))] w fun e w' => e = .returned (.tuple #[.string (Om.B (padTo l k)), .int .i64 0]) ∧ Below w.heap.size w w' := fun w =>
    open_ok (padTo l k) _ w (Cm.four_length _) (by rw [padTo_length l k h]; omega) rfl
  obtain ⟨j, hje⟩ : ∃ j, j = x % (k + 4) := ⟨_, rfl⟩
  have hj : j < k + 4 := by rw [hje]; exact Nat.mod_lt _ (by omega)
  obtain ⟨s, t, T, p, q, hs, ht, hT, hss, hts, hte, hep, heq, hTe, ho1, ho2, hTl, hT2⟩ := byte_parts l k j y h (by omega) hj
  obtain ⟨v, r, hopen2, hcase⟩ : ∃ v r, (∀ w, Calls Try.prog 7 #[.string (Om.B T)] w fun e w' => e = .returned (.tuple #[.string v, .int .i64 r]) ∧ Below w.heap.size w w') ∧ (((Om.B T).toList == s.toList) = true ∨ (((Om.B T).toList == s.toList) = false ∧ (r == 31) = true)) := by
    have hall : ∀ w, Calls Try.prog 7 #[.string (Om.B T)] w _ := fun w => open_any T w (by omega) (by omega)
    by_cases e : T = sealed l k
    · subst e
      refine ⟨Om.B (padTo l k), 0, hopen, .inl ?_⟩
      rw [hs]
      exact beq_self_eq_true _
    · have hg : Cm.good T = false := hT2.resolve_left e
      rw [hg] at hall
      refine ⟨Om.B [], 31, fun w => (hall w).mono (fun e w' h => h), .inr ⟨?_, rfl⟩⟩
      rw [hs]
      exact B_ne e
  rw [← hs] at hseal hopen
  rw [← ht] at hopen
  obtain ⟨n, hn⟩ : ∃ n : Nat, n = k + 4 := ⟨_, rfl⟩
  rw [← hn] at hseal hss heq hTl hj hje ⊢
  have d2 : decide (400 < (n : Int)) = false := by simp; omega
  have hn4 : (n : Int) - 4 = (k : Int) := by omega
  have hjn : (x : Int) % (n : Int) = (j : Int) := by rw [hje]; simp
  have hlk : (Om.B l).size ≤ k := h
  have hn5 : 4 ≤ n := by omega
  have hn6 : n ≤ 400 := by omega
  have HSEAL := Lib.hid hseal
  have HOPEN := Lib.hid hopen
  have HOPEN2 := Lib.hid hopen2
  clear hseal hopen hopen2 hs ht hT hT2 hl hk h hje hn
  go_enter Try.func3, Try.ntmps3
  go_wp2_with fail
  refine (HSEAL.out _).mono ?_
  rintro e w1 ⟨rfl, hb1⟩
  have HB1 := Lib.hid hb1
  clear hb1
  go_wp2_with fail
  refine (HOPEN.out _).mono ?_
  rintro e w2 ⟨rfl, hb2⟩
  have hb2' := HB1.out.trans (hb2.mono HB1.out.size)
  have hc0 : w2.cell? ⟨w.heap.size, 0, none⟩ = some (.int .u8 (x : Int)) := by rw [hb2'.cell (p := ⟨w.heap.size, 0, none⟩) (by simp)]; simp
  have hc1 : w2.cell? ⟨w.heap.size, 1, none⟩ = some (.int .u8 (y : Int)) := by rw [hb2'.cell (p := ⟨w.heap.size, 1, none⟩) (by simp)]; simp
  have HB2 := Lib.hid hb2'
  clear hb2 hb2'
  go_wp2
  rw [hjn]
  have b0 : (0 : Int) ≤ (j : Int) := by omega
  have b1 : (j : Int) ≤ (n : Int) := by omega
  have b2 : (0 : Int) ≤ (j : Int) + 1 := by omega
  have b3 : (j : Int) + 1 ≤ (n : Int) := by omega
  have b4 : IntKind.i64.wrap ((j : Int) + 1) = (j : Int) + 1 := IntWalk.i64_in _ (by omega)
  have hcv := str_drew w2 y hy
  go_region
  have HS := Lib.hid (show Below w.heap.size w w2 from below_call HB2.out)
  clear hcv hc0 hc1 hte hts hep heq hTe ho1 ho2
  go_wp2_with fail
  refine (HOPEN2.out _).mono ?_
  rintro e w3 ⟨rfl, hb3⟩
  have hb3' : Below w2.heap.size w2 w3 := below_call ⟨hb3.os, hb3.tape, hb3.output, hb3.size, hb3.block⟩
  have HB3 := Lib.hid (HS.out.trans (hb3'.mono HS.out.size))
  clear hb3 hb3'
  go_wp2_with fail
  refine (alive_any _).mono ?_
  rintro e w4 ⟨rfl, hb4⟩
  have HB4 := Lib.hid (HB3.out.trans (hb4.mono HB3.out.size))
  clear hb4
  rcases hcase with hc | ⟨hc, hr⟩
  · go_wp2
    go_ret
    exact ⟨rfl, HB4.out⟩
  · go_wp2
    go_ret
    exact ⟨rfl, HB4.out⟩
end Go.Proofs.Ytammfhhinbhfgaa
