/- The walk of ExtentWhole. -/
import Derived.Test.YtemdlnphlibcaaaExtAlive
import Derived.Test.YtemdlnphlibcaaaExtRGaps
import Derived.Test.YtemdlnphlibcaaaExtMath2
import Derived.Test.YtemdlnphlibcaaaAppendAny
namespace Go.Proofs.Ytemdlnphlibcaaa
namespace Xm
open Go.RowKit
set_option maxRecDepth 100000
set_option linter.unusedVariables false

theorem whole_alive (s l m : Int) (u : List (Int × Int)) (n c : Nat) (p : Option Addr) (w : World) (hi : In u n) (hu : Exts w p u) (h : 20 < n ∨ (n ≤ 20 ∧ okB s l u = false)) :
    Calls Try.prog 4 #[.agg #[.int .i64 s, .int .i64 l], .slice p n c, .int .i64 m] w fun e w' => e = .returned (.bool true) ∧ Below w.heap.size w w' := by
  have AL := Lib.hid alive_any
  have PG := Lib.hid (fun w1 hb => pgaps_any s l hi p c w1 (hu.next hb))
  have HB := Lib.hid (below_new w (.cells #[.int .i64 s, .int .i64 l] 23))
  have hx := Bx.new w s l
  have c0 := hx.c0
  have c1 := hx.c1
  have hn63 : n ≤ 9223372036854775807 := by have := hi.bytes; omega
  clear hx hu hi
  rcases h with h | ⟨h, ho⟩
  · have d1 : decide ((n : Int) > 20) = true := by simp; omega
    have d2 : decide (20 < n) = true := by simp; omega
    clear h
    go_enter Try.func4, Try.ntmps4
    go_wp2_with fail
    refine (PG.out _ HB.out).mono ?_
    rintro e w1 ⟨q, d, rfl, _, hb⟩
    have HB1 := Lib.hid (HB.out.trans (hb.mono HB.out.size))
    clear hb c0 c1
    go_wp2_with fail
    refine (AL.out _).mono ?_
    rintro e w2 ⟨rfl, hb⟩
    have HB2 := Lib.hid (HB1.out.trans (hb.mono HB1.out.size))
    clear hb
    go_wp2_with fail
    go_ret
    exact ⟨rfl, HB2.out⟩
  · have d1 : decide ((n : Int) > 20) = false := by simp; omega
    have d2 : decide (20 < n) = false := by simp; omega
    have hE : gapsE s l u = 1 := by unfold gapsE; rw [ho]; rfl
    rw [hE] at PG
    clear h ho hE
    go_enter Try.func4, Try.ntmps4
    go_wp2_with fail
    refine (PG.out _ HB.out).mono ?_
    rintro e w1 ⟨q, d, rfl, _, hb⟩
    have HB1 := Lib.hid (HB.out.trans (hb.mono HB.out.size))
    clear hb c0 c1
    go_wp2_with fail
    refine (AL.out _).mono ?_
    rintro e w2 ⟨rfl, hb⟩
    have HB2 := Lib.hid (HB1.out.trans (hb.mono HB1.out.size))
    clear hb
    go_wp2_with fail
    go_ret
    exact ⟨rfl, HB2.out⟩

set_option maxHeartbeats 4000000 in
theorem whole_not (s l m : Int) (u : List (Int × Int)) (n c : Nat) (p : Option Addr) (w : World) (hi : In u n) (hu : Exts w p u) (hn : n ≤ 20) (ho : okB s l u = true) (hf : fitE s l m u ≠ 0) :
    Calls Try.prog 4 #[.agg #[.int .i64 s, .int .i64 l], .slice p n c, .int .i64 m] w fun e w' => e = .returned (.bool true) ∧ Below w.heap.size w w' := by
  have AL := Lib.hid alive_any
  obtain ⟨i0, hi0, hz0, hz1, hz2⟩ := info_parts info_ext
  have hgR : gapsR s l u = gaps s l u := by unfold gapsR; rw [if_pos ho]
  have hgE : gapsE s l u = 0 := by unfold gapsE; rw [if_pos ho]
  have PG : Hid (∀ w1, Below w.heap.size w w1 → Calls Try.prog 7 #[.agg #[.int .i64 s, .int .i64 l], .slice p n c] w1 fun e w' => ∃ q d, e = .returned (.tuple #[.slice q (gaps s l u).length d, .int .i64 0]) ∧ Exts w' q (gaps s l u) ∧ Below w1.heap.size w1 w') := fun w1 hb => by
    have := pgaps_any s l hi p c w1 (hu.next hb)
    rwa [hgR, hgE] at this
  have PF : Hid (∀ w1, Below w.heap.size w w1 → Calls Try.prog 9 #[.agg #[.int .i64 s, .int .i64 l], .int .i64 m, .slice p n c] w1 fun e w' => e = .returned (.tuple #[.agg #[.int .i64 (fitS s l m u), .int .i64 (fitL s l m u)], .int .i64 (fitE s l m u)]) ∧ Below w1.heap.size w1 w') := fun w1 hb => pfit_any s l m hi p c w1 (hu.next hb)
  have PE : Hid (∀ w1, Below w.heap.size w w1 → Calls Try.prog 14 #[.agg #[.int .i64 s, .int .i64 l], .slice p n c] w1 fun e w' => e = .returned (.int .i64 (freeR s l u)) ∧ Below w1.heap.size w1 w') := fun w1 hb => pfree_any s l hi p c w1 (hu.next hb)
  have PRa : Hid (∀ w1 pb cb, Exts w1 pb (u ++ gaps s l u) → Calls Try.prog 12 #[.agg #[.int .i64 s, .int .i64 l], .slice pb (n + (gaps s l u).length) cb] w1 fun e w' => e = .returned (.bool true) ∧ Below w1.heap.size w1 w') := fun w1 pb cb hb => by
    have := pright_in s l (in_all hi hn ho) pb cb w1 hb
    rwa [(all_used ho).1] at this
  have PEa : Hid (∀ w1 pb cb, Exts w1 pb (u ++ gaps s l u) → Calls Try.prog 14 #[.agg #[.int .i64 s, .int .i64 l], .slice pb (n + (gaps s l u).length) cb] w1 fun e w' => e = .returned (.int .i64 0) ∧ Below w1.heap.size w1 w') := fun w1 pb cb hb => by
    have := pfree_any s l (in_all hi hn ho) pb cb w1 hb
    rwa [(all_used ho).2] at this
  have hfi := fit_is (m := m) ho
  have hgl : (gaps s l u).length ≤ 1048576 := by rw [← hgR]; exact gapsR_len s l u
  obtain ⟨gs, hgs⟩ : ∃ gs, gs = gaps s l u := ⟨_, rfl⟩
  rw [← hgs] at PG PRa PEa hfi hgl
  obtain ⟨N, hN⟩ : ∃ N, N = gs.length := ⟨_, rfl⟩
  rw [← hN] at PG PRa PEa hgl
  obtain ⟨fS, hfS⟩ : ∃ x, x = fitS s l m u := ⟨_, rfl⟩
  obtain ⟨fL, hfL⟩ : ∃ x, x = fitL s l m u := ⟨_, rfl⟩
  obtain ⟨fE, hfE⟩ : ∃ x, x = fitE s l m u := ⟨_, rfl⟩
  rw [← hfS, ← hfL, ← hfE] at PF
  rw [← hfE] at hfi hf
  obtain ⟨fr, hfr⟩ : ∃ x, x = freeR s l u := ⟨_, rfl⟩
  rw [← hfr] at PE
  have HN := Lib.hid hN
  have HL := Lib.hid hi.size
  have HU := Lib.hid hu
  have HFI := Lib.hid hfi
  have dE : (fE == 0) = false := by simpa using hf
  clear hN hgs hfS hfL hfE hfr hgR hgE hfi hf ho
  have d1 : decide ((n : Int) > 20) = false := by simp; omega
  have d2 : decide (20 < n) = false := by simp; omega
  obtain ⟨W0, hW0⟩ : ∃ W0, w.alloc (.cells #[.int .i64 s, .int .i64 l] 23) = W0 := ⟨_, rfl⟩
  have hx : Bx W0 w.heap.size s l := by rw [← hW0]; exact Bx.new _ _ _
  have HB0 : Hid (Below w.heap.size w W0) := by rw [← hW0]; exact below_new _ _
  have HX0 := Lib.hid hx
  have c0 := hx.c0
  have c1 := hx.c1
  clear hi hu hx
  go_enter Try.func4, Try.ntmps4
  go_wp2_with fail
  clear hW0
  refine (PG.out _ HB0.out).mono ?_
  rintro e w1 ⟨q, d, rfl, hrow, hb⟩
  have HR1 := Lib.hid hrow
  have HB1 := Lib.hid (HB0.out.trans (hb.mono HB0.out.size))
  have HX1 := Lib.hid (HX0.out.next hb)
  clear hrow hb c0 c1
  have c0 := HX1.out.c0
  have c1 := HX1.out.c1
  go_wp2_with fail
  refine (PF.out _ HB1.out).mono ?_
  rintro e w2 ⟨rfl, hb⟩
  obtain ⟨W2, hW2⟩ : ∃ W2, w2.alloc (.cells #[.int .i64 fS, .int .i64 fL] 23) = W2 := ⟨_, rfl⟩
  have b1 : Below w2.heap.size w2 W2 := by rw [← hW2]; exact below_new _ _
  have EA2 : Hid (Bx W2 w2.heap.size fS fL) := by rw [← hW2]; exact Bx.new _ _ _
  have hb := hb.trans (b1.mono hb.size)
  have HR2 := Lib.hid (HR1.out.next hb)
  have HB2 := Lib.hid (HB1.out.trans (hb.mono HB1.out.size))
  have HX2 := Lib.hid (HX1.out.next hb)
  clear hb b1 c0 c1
  go_wp2_with fail
  clear hW2
  go_loopw [11, 12] (fun b i wr => ∃ k : Nat, k ≤ N ∧ i = .int .i64 k ∧ wr = W2 ∧ b = .bool (roomB m (gs.take k))) (fun _ i _ => N - (intOf i).toNat)
  case atStart => exact ⟨0, Nat.zero_le _, rfl, rfl, by rw [List.take_zero, roomB_nil]⟩
  case round =>
    obtain ⟨k, hk, rfl, rfl, rfl⟩ := hrel
    by_cases hlt : k < N
    · have hkl : k < gs.length := by rw [← HN.out]; exact hlt
      have hne : gs ≠ [] := by intro e; rw [e] at hkl; simp at hkl
      obtain ⟨b, off, rfl, hbl, hc⟩ := HR2.out hne
      obtain ⟨r0, r1⟩ := hc k hkl
      obtain ⟨⟨xa, xb⟩, hx⟩ : ∃ x, x = gs[k] := ⟨_, rfl⟩
      rw [← hx] at r0 r1
      dsimp only at r0 r1
      have hrt := roomB_take m gs k hkl
      rw [← hx] at hrt
      dsimp only at hrt
      obtain ⟨rk, hrk⟩ : ∃ rk, rk = roomB m (gs.take k) := ⟨_, rfl⟩
      rw [← hrk] at hrt ⊢
      have hd : decide ((k : Int) < (N : Int)) = true := by simp; omega
      have hd2 : decide (k < N) = true := by simp; omega
      have hd3 : (k : Int) < (N : Int) := by omega
      clear hx hkl hne hc hbl hrk
      cases rk with
      | true =>
        have HT := Lib.hid (show roomB m (gs.take (k + 1)) = true by rw [hrt]; rfl)
        clear hrt
        go_wp2_with fail
        go_roundw
        case rel => exact ⟨k + 1, by omega, by go_num, by trivial, by rw [HT.out]⟩
        case measure => simp [intOf]; omega
      | false =>
        cases e1 : decide (1 ≤ m) with
        | false =>
          have e3 : decide (m ≥ 1) = false := e1
          have HT := Lib.hid (show roomB m (gs.take (k + 1)) = false by rw [hrt, e1]; rfl)
          clear hrt
          go_wp2_with fail
          go_roundw
          case rel => exact ⟨k + 1, by omega, by go_num, by trivial, by rw [HT.out]⟩
          case measure => simp [intOf]; omega
        | true =>
          have e3 : decide (m ≥ 1) = true := e1
          cases e2 : decide (m ≤ xb) with
          | false =>
            have e4 : decide (xb ≥ m) = false := e2
            have HT := Lib.hid (show roomB m (gs.take (k + 1)) = false by rw [hrt, e1, e2]; rfl)
            clear hrt
            go_wp2_with fail
            go_roundw
            case rel => exact ⟨k + 1, by omega, by go_num, by trivial, by rw [HT.out]⟩
            case measure => simp [intOf]; omega
          | true =>
            have e4 : decide (xb ≥ m) = true := e2
            have HT := Lib.hid (show roomB m (gs.take (k + 1)) = true by rw [hrt, e1, e2]; rfl)
            clear hrt
            go_wp2_with fail
            go_roundw
            case rel => exact ⟨k + 1, by omega, by go_num, by trivial, by rw [HT.out]⟩
            case measure => simp [intOf]; omega
    · have hd : decide ((k : Int) < (N : Int)) = false := by simp; omega
      have hd2 : decide (k < N) = false := by simp; omega
      have hkN : gs.take k = gs := List.take_of_length_le (by have := HN.out; omega)
      rw [hkN, ← HFI.out]
      clear hkN hlt hk
      have W2B := HB2.out.size
      have HU2 := Lib.hid ((HU.out.next HB2.out).next (below_new wr (.cells #[] 23)))
      have w2l := EA2.out.lt
      go_wp2_with (at_builtin; refine wpList_append_any _ rfl _ _ rfl wr.heap.size _ _ _ rfl (World.ownsRow_made wr #[] 0 (Nat.le_refl _) (Nat.zero_le _) (by simp)) p n c u rfl HL.out HU2.out (by unfold maxLen; omega) (by omega) (by simp) ?_)
      intro va w3 hown hgrow
      have hown : w3.ownsRow wr.heap.size 23 2 va n (cells u) := by simpa using hown
      have hb : Below wr.heap.size wr w3 := (below_new wr _).grown hgrow (by simp) (by intro k hk; simp [Value.ownBlock] at hk; omega)
      obtain ⟨pa, pc, rfl⟩ := ownsRow_cap hown
      have HB23 := Lib.hid hb
      have HRW := Lib.hid hown
      have S3 := hb.size
      have EA3 := Lib.hid (EA2.out.next hb)
      have HO : Hid (∀ r, (Value.slice pa n pc).ownBlock = some r → wr.heap.size ≤ r) := fun r hr => own_from2 HRW.out r hr
      clear hown hgrow hb HU2
      have x0 := EA3.out.c0
      have x1 := EA3.out.c1
      go_wp2_with (at_builtin; refine wpList_append_own _ rfl _ _ 24 rfl wr.heap.size 23 i0 _ 2 16 Try.underlying24 hi0 hz0 hz1 hz2 rfl (by decide) (.slice pa n pc) n (cells u) rfl (HRW.out.alloc _) ⟨w3.heap.size, 0, none⟩ 1 1 [.int .i64 fS, .int .i64 fL] rfl rfl (World.news_of_block (cs := #[.int .i64 fS, .int .i64 fL]) (heap_alloc_new w3 _)) (by simp [Value.oneCell']) (by unfold maxLen; omega) (by omega) (by simp; omega) ?_)
      intro vb w4 hown hgrow hnil
      have hb : Below wr.heap.size wr w4 := (HB23.out.alloc S3 _).grown hgrow (by simp; omega) (fun j e => HO.out j e)
      obtain ⟨pw, cw, rfl, hroww⟩ := Exts.own (l := u ++ [(fS, fL)]) (v := vb) (by rw [List.length_append, List.length_singleton, ← HL.out, cells_append, cells_one]; exact hown)
      rw [List.length_append, List.length_singleton, ← HL.out]
      have HW4 := Lib.hid hroww
      have HR4 := Lib.hid (HR2.out.next hb)
      have HB4 := Lib.hid (HB2.out.trans (hb.mono HB2.out.size))
      have HX4 := Lib.hid (HX2.out.next hb)
      clear hown hgrow hnil hb hroww x0 x1
      have HU4 := Lib.hid ((HU.out.next HB4.out).next (below_new w4 (.cells #[] 23)))
      go_wp2_with (at_builtin; refine wpList_append_any _ rfl _ _ rfl w4.heap.size _ _ _ rfl (World.ownsRow_made w4 #[] 0 (Nat.le_refl _) (Nat.zero_le _) (by simp)) p n c u rfl HL.out HU4.out (by unfold maxLen; omega) (by omega) (by simp) ?_)
      intro vc w5 hown hgrow
      have hown : w5.ownsRow w4.heap.size 23 2 vc n (cells u) := by simpa using hown
      have hb : Below w4.heap.size w4 w5 := (below_new w4 _).grown hgrow (by simp) (by intro k hk; simp [Value.ownBlock] at hk; omega)
      obtain ⟨pc2, cc2, rfl⟩ := ownsRow_cap hown
      have HB45 := Lib.hid hb
      have HRW2 := Lib.hid hown
      have S5 := hb.size
      have HR5 := Lib.hid (HR4.out.next hb)
      have HO2 : Hid (∀ r, (Value.slice pc2 n cc2).ownBlock = some r → w4.heap.size ≤ r) := fun r hr => own_from2 HRW2.out r hr
      clear hown hgrow hb HU4
      go_wp2_with (at_builtin; refine wpList_append_any _ rfl _ _ rfl w4.heap.size (.slice pc2 n cc2) n (cells u) rfl HRW2.out q N d gs rfl HN.out HR5.out (by unfold maxLen; omega) (by omega) S5 ?_)
      intro vd w6 hown hgrow
      have hb : Below w4.heap.size w4 w6 := HB45.out.grown hgrow S5 (fun j e => HO2.out j e)
      obtain ⟨pl, cl, rfl, hrowl⟩ := Exts.own (l := u ++ gs) (v := vd) (by rw [List.length_append, ← HL.out, ← HN.out, cells_append]; exact hown)
      rw [List.length_append, ← HL.out, ← HN.out]
      have HA6 := Lib.hid hrowl
      have HW6 := Lib.hid (HW4.out.next hb)
      have HB6 := Lib.hid (HB4.out.trans (hb.mono HB4.out.size))
      have HX6 := Lib.hid (HX4.out.next hb)
      clear hown hgrow hb hrowl
      have c0 := HX6.out.c0
      have c1 := HX6.out.c1
      go_wp2_with fail
      refine (PE.out _ HB6.out).mono ?_
      rintro e w7 ⟨rfl, hb⟩
      have HA7 := Lib.hid (HA6.out.next hb)
      have HW7 := Lib.hid (HW6.out.next hb)
      have HB7 := Lib.hid (HB6.out.trans (hb.mono HB6.out.size))
      have HX7 := Lib.hid (HX6.out.next hb)
      clear hb c0 c1
      have c0 := HX7.out.c0
      have c1 := HX7.out.c1
      go_wp2_with fail
      refine (AL.out _).mono ?_
      rintro e w8 ⟨rfl, hb⟩
      have HA8 := Lib.hid (HA7.out.next hb)
      have HB8 := Lib.hid (HB7.out.trans (hb.mono HB7.out.size))
      have HX8 := Lib.hid (HX7.out.next hb)
      clear hb c0 c1
      have c0 := HX8.out.c0
      have c1 := HX8.out.c1
      go_wp2_with fail
      refine (PRa.out _ _ _ HA8.out).mono ?_
      rintro e w9 ⟨rfl, hb⟩
      have HA9 := Lib.hid (HA8.out.next hb)
      have HB9 := Lib.hid (HB8.out.trans (hb.mono HB8.out.size))
      have HX9 := Lib.hid (HX8.out.next hb)
      clear hb c0 c1
      have c0 := HX9.out.c0
      have c1 := HX9.out.c1
      go_wp2_with fail
      refine (PEa.out _ _ _ HA9.out).mono ?_
      rintro e w10 ⟨rfl, hb⟩
      have HB10 := Lib.hid (HB9.out.trans (hb.mono HB9.out.size))
      clear hb c0 c1
      go_wp2_with fail
      go_ret
      exact ⟨rfl, HB10.out⟩

set_option maxHeartbeats 4000000 in
theorem whole_fit (s l m : Int) (u : List (Int × Int)) (n c : Nat) (p : Option Addr) (w : World) (hi : In u n) (hu : Exts w p u) (hn : n ≤ 20) (ho : okB s l u = true) (hf : fitE s l m u = 0) :
    Calls Try.prog 4 #[.agg #[.int .i64 s, .int .i64 l], .slice p n c, .int .i64 m] w fun e w' => e = .returned (.bool true) ∧ Below w.heap.size w w' := by
  have AL := Lib.hid alive_any
  obtain ⟨i0, hi0, hz0, hz1, hz2⟩ := info_parts info_ext
  have hgR : gapsR s l u = gaps s l u := by unfold gapsR; rw [if_pos ho]
  have hgE : gapsE s l u = 0 := by unfold gapsE; rw [if_pos ho]
  have PG : Hid (∀ w1, Below w.heap.size w w1 → Calls Try.prog 7 #[.agg #[.int .i64 s, .int .i64 l], .slice p n c] w1 fun e w' => ∃ q d, e = .returned (.tuple #[.slice q (gaps s l u).length d, .int .i64 0]) ∧ Exts w' q (gaps s l u) ∧ Below w1.heap.size w1 w') := fun w1 hb => by
    have := pgaps_any s l hi p c w1 (hu.next hb)
    rwa [hgR, hgE] at this
  have PF : Hid (∀ w1, Below w.heap.size w w1 → Calls Try.prog 9 #[.agg #[.int .i64 s, .int .i64 l], .int .i64 m, .slice p n c] w1 fun e w' => e = .returned (.tuple #[.agg #[.int .i64 (fitS s l m u), .int .i64 (fitL s l m u)], .int .i64 (fitE s l m u)]) ∧ Below w1.heap.size w1 w') := fun w1 hb => pfit_any s l m hi p c w1 (hu.next hb)
  have PE : Hid (∀ w1, Below w.heap.size w w1 → Calls Try.prog 14 #[.agg #[.int .i64 s, .int .i64 l], .slice p n c] w1 fun e w' => e = .returned (.int .i64 (freeR s l u)) ∧ Below w1.heap.size w1 w') := fun w1 hb => pfree_any s l hi p c w1 (hu.next hb)
  have PRa : Hid (∀ w1 pb cb, Exts w1 pb (u ++ gaps s l u) → Calls Try.prog 12 #[.agg #[.int .i64 s, .int .i64 l], .slice pb (n + (gaps s l u).length) cb] w1 fun e w' => e = .returned (.bool true) ∧ Below w1.heap.size w1 w') := fun w1 pb cb hb => by
    have := pright_in s l (in_all hi hn ho) pb cb w1 hb
    rwa [(all_used ho).1] at this
  have PEa : Hid (∀ w1 pb cb, Exts w1 pb (u ++ gaps s l u) → Calls Try.prog 14 #[.agg #[.int .i64 s, .int .i64 l], .slice pb (n + (gaps s l u).length) cb] w1 fun e w' => e = .returned (.int .i64 0) ∧ Below w1.heap.size w1 w') := fun w1 pb cb hb => by
    have := pfree_any s l (in_all hi hn ho) pb cb w1 hb
    rwa [(all_used ho).2] at this
  obtain ⟨hw1, hw2, hw3⟩ := fit_with ho hf
  have hfw : 0 ≤ freeR s l (u ++ [(fitS s l m u, fitL s l m u)]) ∧ freeR s l (u ++ [(fitS s l m u, fitL s l m u)]) ≤ 1048576 := by
    unfold freeR
    rw [if_pos hw1]
    have hr := (ok_iff.1 ho).1
    obtain ⟨_, _, _, h4⟩ := reg_iff.1 hr
    have := free_small s l (u ++ [(fitS s l m u, fitL s l m u)]) hr
    omega
  rw [hw2] at hfw
  have PRw : Hid (∀ w1 pb cb, Exts w1 pb (u ++ [(fitS s l m u, fitL s l m u)]) → Calls Try.prog 12 #[.agg #[.int .i64 s, .int .i64 l], .slice pb (n + 1) cb] w1 fun e w' => e = .returned (.bool true) ∧ Below w1.heap.size w1 w') := fun w1 pb cb hb => by
    have := pright_in s l (hi.more (x := (fitS s l m u, fitL s l m u)) hw3 hn) pb cb w1 hb
    rwa [hw1] at this
  have PEw : Hid (∀ w1 pb cb, Exts w1 pb (u ++ [(fitS s l m u, fitL s l m u)]) → Calls Try.prog 14 #[.agg #[.int .i64 s, .int .i64 l], .slice pb (n + 1) cb] w1 fun e w' => e = .returned (.int .i64 (freeR s l u - m)) ∧ Below w1.heap.size w1 w') := fun w1 pb cb hb => by
    have := pfree_any s l (hi.more (x := (fitS s l m u, fitL s l m u)) hw3 hn) pb cb w1 hb
    rwa [hw2] at this
  clear hw1 hw2 hw3
  have hfi := fit_is (m := m) ho
  have hgl : (gaps s l u).length ≤ 1048576 := by rw [← hgR]; exact gapsR_len s l u
  obtain ⟨gs, hgs⟩ : ∃ gs, gs = gaps s l u := ⟨_, rfl⟩
  rw [← hgs] at PG PRa PEa hfi hgl
  obtain ⟨N, hN⟩ : ∃ N, N = gs.length := ⟨_, rfl⟩
  rw [← hN] at PG PRa PEa hgl
  obtain ⟨fS, hfS⟩ : ∃ x, x = fitS s l m u := ⟨_, rfl⟩
  obtain ⟨fL, hfL⟩ : ∃ x, x = fitL s l m u := ⟨_, rfl⟩
  obtain ⟨fE, hfE⟩ : ∃ x, x = fitE s l m u := ⟨_, rfl⟩
  rw [← hfS, ← hfL, ← hfE] at PF
  rw [← hfS, ← hfL] at PRw PEw
  rw [← hfE] at hfi hf
  obtain ⟨fr, hfr⟩ : ∃ x, x = freeR s l u := ⟨_, rfl⟩
  rw [← hfr] at PE PEw hfw
  have HN := Lib.hid hN
  have HL := Lib.hid hi.size
  have HU := Lib.hid hu
  have HFI := Lib.hid hfi
  have e0 : IntKind.i64.wrap (fr - m) = fr - m := IntWalk.i64_in _ (by omega)
  have dE : (fE == 0) = true := by rw [hf]; rfl
  have HF := Lib.hid hf
  clear hfw
  clear hN hgs hfS hfL hfE hfr hgR hgE hfi hf ho
  have d1 : decide ((n : Int) > 20) = false := by simp; omega
  have d2 : decide (20 < n) = false := by simp; omega
  obtain ⟨W0, hW0⟩ : ∃ W0, w.alloc (.cells #[.int .i64 s, .int .i64 l] 23) = W0 := ⟨_, rfl⟩
  have hx : Bx W0 w.heap.size s l := by rw [← hW0]; exact Bx.new _ _ _
  have HB0 : Hid (Below w.heap.size w W0) := by rw [← hW0]; exact below_new _ _
  have HX0 := Lib.hid hx
  have c0 := hx.c0
  have c1 := hx.c1
  clear hi hu hx
  go_enter Try.func4, Try.ntmps4
  go_wp2_with fail
  clear hW0
  refine (PG.out _ HB0.out).mono ?_
  rintro e w1 ⟨q, d, rfl, hrow, hb⟩
  have HR1 := Lib.hid hrow
  have HB1 := Lib.hid (HB0.out.trans (hb.mono HB0.out.size))
  have HX1 := Lib.hid (HX0.out.next hb)
  clear hrow hb c0 c1
  have c0 := HX1.out.c0
  have c1 := HX1.out.c1
  go_wp2_with fail
  refine (PF.out _ HB1.out).mono ?_
  rintro e w2 ⟨rfl, hb⟩
  obtain ⟨W2, hW2⟩ : ∃ W2, w2.alloc (.cells #[.int .i64 fS, .int .i64 fL] 23) = W2 := ⟨_, rfl⟩
  have b1 : Below w2.heap.size w2 W2 := by rw [← hW2]; exact below_new _ _
  have EA2 : Hid (Bx W2 w2.heap.size fS fL) := by rw [← hW2]; exact Bx.new _ _ _
  have hb := hb.trans (b1.mono hb.size)
  have HR2 := Lib.hid (HR1.out.next hb)
  have HB2 := Lib.hid (HB1.out.trans (hb.mono HB1.out.size))
  have HX2 := Lib.hid (HX1.out.next hb)
  clear hb b1 c0 c1
  go_wp2_with fail
  clear hW2
  go_loopw [11, 12] (fun b i wr => ∃ k : Nat, k ≤ N ∧ i = .int .i64 k ∧ wr = W2 ∧ b = .bool (roomB m (gs.take k))) (fun _ i _ => N - (intOf i).toNat)
  case atStart => exact ⟨0, Nat.zero_le _, rfl, rfl, by rw [List.take_zero, roomB_nil]⟩
  case round =>
    obtain ⟨k, hk, rfl, rfl, rfl⟩ := hrel
    by_cases hlt : k < N
    · have hkl : k < gs.length := by rw [← HN.out]; exact hlt
      have hne : gs ≠ [] := by intro e; rw [e] at hkl; simp at hkl
      obtain ⟨b, off, rfl, hbl, hc⟩ := HR2.out hne
      obtain ⟨r0, r1⟩ := hc k hkl
      obtain ⟨⟨xa, xb⟩, hx⟩ : ∃ x, x = gs[k] := ⟨_, rfl⟩
      rw [← hx] at r0 r1
      dsimp only at r0 r1
      have hrt := roomB_take m gs k hkl
      rw [← hx] at hrt
      dsimp only at hrt
      obtain ⟨rk, hrk⟩ : ∃ rk, rk = roomB m (gs.take k) := ⟨_, rfl⟩
      rw [← hrk] at hrt ⊢
      have hd : decide ((k : Int) < (N : Int)) = true := by simp; omega
      have hd2 : decide (k < N) = true := by simp; omega
      have hd3 : (k : Int) < (N : Int) := by omega
      clear hx hkl hne hc hbl hrk
      cases rk with
      | true =>
        have HT := Lib.hid (show roomB m (gs.take (k + 1)) = true by rw [hrt]; rfl)
        clear hrt
        go_wp2_with fail
        go_roundw
        case rel => exact ⟨k + 1, by omega, by go_num, by trivial, by rw [HT.out]⟩
        case measure => simp [intOf]; omega
      | false =>
        cases e1 : decide (1 ≤ m) with
        | false =>
          have e3 : decide (m ≥ 1) = false := e1
          have HT := Lib.hid (show roomB m (gs.take (k + 1)) = false by rw [hrt, e1]; rfl)
          clear hrt
          go_wp2_with fail
          go_roundw
          case rel => exact ⟨k + 1, by omega, by go_num, by trivial, by rw [HT.out]⟩
          case measure => simp [intOf]; omega
        | true =>
          have e3 : decide (m ≥ 1) = true := e1
          cases e2 : decide (m ≤ xb) with
          | false =>
            have e4 : decide (xb ≥ m) = false := e2
            have HT := Lib.hid (show roomB m (gs.take (k + 1)) = false by rw [hrt, e1, e2]; rfl)
            clear hrt
            go_wp2_with fail
            go_roundw
            case rel => exact ⟨k + 1, by omega, by go_num, by trivial, by rw [HT.out]⟩
            case measure => simp [intOf]; omega
          | true =>
            have e4 : decide (xb ≥ m) = true := e2
            have HT := Lib.hid (show roomB m (gs.take (k + 1)) = true by rw [hrt, e1, e2]; rfl)
            clear hrt
            go_wp2_with fail
            go_roundw
            case rel => exact ⟨k + 1, by omega, by go_num, by trivial, by rw [HT.out]⟩
            case measure => simp [intOf]; omega
    · have hd : decide ((k : Int) < (N : Int)) = false := by simp; omega
      have hd2 : decide (k < N) = false := by simp; omega
      have hkN : gs.take k = gs := List.take_of_length_le (by have := HN.out; omega)
      rw [hkN, ← HFI.out]
      clear hkN hlt hk
      have W2B := HB2.out.size
      have HU2 := Lib.hid ((HU.out.next HB2.out).next (below_new wr (.cells #[] 23)))
      have w2l := EA2.out.lt
      go_wp2_with (at_builtin; refine wpList_append_any _ rfl _ _ rfl wr.heap.size _ _ _ rfl (World.ownsRow_made wr #[] 0 (Nat.le_refl _) (Nat.zero_le _) (by simp)) p n c u rfl HL.out HU2.out (by unfold maxLen; omega) (by omega) (by simp) ?_)
      intro va w3 hown hgrow
      have hown : w3.ownsRow wr.heap.size 23 2 va n (cells u) := by simpa using hown
      have hb : Below wr.heap.size wr w3 := (below_new wr _).grown hgrow (by simp) (by intro k hk; simp [Value.ownBlock] at hk; omega)
      obtain ⟨pa, pc, rfl⟩ := ownsRow_cap hown
      have HB23 := Lib.hid hb
      have HRW := Lib.hid hown
      have S3 := hb.size
      have EA3 := Lib.hid (EA2.out.next hb)
      have HO : Hid (∀ r, (Value.slice pa n pc).ownBlock = some r → wr.heap.size ≤ r) := fun r hr => own_from2 HRW.out r hr
      clear hown hgrow hb HU2
      have x0 := EA3.out.c0
      have x1 := EA3.out.c1
      go_wp2_with (at_builtin; refine wpList_append_own _ rfl _ _ 24 rfl wr.heap.size 23 i0 _ 2 16 Try.underlying24 hi0 hz0 hz1 hz2 rfl (by decide) (.slice pa n pc) n (cells u) rfl (HRW.out.alloc _) ⟨w3.heap.size, 0, none⟩ 1 1 [.int .i64 fS, .int .i64 fL] rfl rfl (World.news_of_block (cs := #[.int .i64 fS, .int .i64 fL]) (heap_alloc_new w3 _)) (by simp [Value.oneCell']) (by unfold maxLen; omega) (by omega) (by simp; omega) ?_)
      intro vb w4 hown hgrow hnil
      have hb : Below wr.heap.size wr w4 := (HB23.out.alloc S3 _).grown hgrow (by simp; omega) (fun j e => HO.out j e)
      obtain ⟨pw, cw, rfl, hroww⟩ := Exts.own (l := u ++ [(fS, fL)]) (v := vb) (by rw [List.length_append, List.length_singleton, ← HL.out, cells_append, cells_one]; exact hown)
      rw [List.length_append, List.length_singleton, ← HL.out]
      have HW4 := Lib.hid hroww
      have HR4 := Lib.hid (HR2.out.next hb)
      have HB4 := Lib.hid (HB2.out.trans (hb.mono HB2.out.size))
      have HX4 := Lib.hid (HX2.out.next hb)
      clear hown hgrow hnil hb hroww x0 x1
      have HU4 := Lib.hid ((HU.out.next HB4.out).next (below_new w4 (.cells #[] 23)))
      go_wp2_with (at_builtin; refine wpList_append_any _ rfl _ _ rfl w4.heap.size _ _ _ rfl (World.ownsRow_made w4 #[] 0 (Nat.le_refl _) (Nat.zero_le _) (by simp)) p n c u rfl HL.out HU4.out (by unfold maxLen; omega) (by omega) (by simp) ?_)
      intro vc w5 hown hgrow
      have hown : w5.ownsRow w4.heap.size 23 2 vc n (cells u) := by simpa using hown
      have hb : Below w4.heap.size w4 w5 := (below_new w4 _).grown hgrow (by simp) (by intro k hk; simp [Value.ownBlock] at hk; omega)
      obtain ⟨pc2, cc2, rfl⟩ := ownsRow_cap hown
      have HB45 := Lib.hid hb
      have HRW2 := Lib.hid hown
      have S5 := hb.size
      have HR5 := Lib.hid (HR4.out.next hb)
      have HO2 : Hid (∀ r, (Value.slice pc2 n cc2).ownBlock = some r → w4.heap.size ≤ r) := fun r hr => own_from2 HRW2.out r hr
      clear hown hgrow hb HU4
      go_wp2_with (at_builtin; refine wpList_append_any _ rfl _ _ rfl w4.heap.size (.slice pc2 n cc2) n (cells u) rfl HRW2.out q N d gs rfl HN.out HR5.out (by unfold maxLen; omega) (by omega) S5 ?_)
      intro vd w6 hown hgrow
      have hb : Below w4.heap.size w4 w6 := HB45.out.grown hgrow S5 (fun j e => HO2.out j e)
      obtain ⟨pl, cl, rfl, hrowl⟩ := Exts.own (l := u ++ gs) (v := vd) (by rw [List.length_append, ← HL.out, ← HN.out, cells_append]; exact hown)
      rw [List.length_append, ← HL.out, ← HN.out]
      have HA6 := Lib.hid hrowl
      have HW6 := Lib.hid (HW4.out.next hb)
      have HB6 := Lib.hid (HB4.out.trans (hb.mono HB4.out.size))
      have HX6 := Lib.hid (HX4.out.next hb)
      clear hown hgrow hb hrowl
      have c0 := HX6.out.c0
      have c1 := HX6.out.c1
      go_wp2_with fail
      refine (PE.out _ HB6.out).mono ?_
      rintro e w7 ⟨rfl, hb⟩
      have HA7 := Lib.hid (HA6.out.next hb)
      have HW7 := Lib.hid (HW6.out.next hb)
      have HB7 := Lib.hid (HB6.out.trans (hb.mono HB6.out.size))
      have HX7 := Lib.hid (HX6.out.next hb)
      clear hb c0 c1
      have c0 := HX7.out.c0
      have c1 := HX7.out.c1
      go_wp2_with fail
      refine (PRw.out _ _ _ HW7.out).mono ?_
      rintro e w7a ⟨rfl, hb⟩
      have HA7 := Lib.hid (HA7.out.next hb)
      have HW7 := Lib.hid (HW7.out.next hb)
      have HB7 := Lib.hid (HB7.out.trans (hb.mono HB7.out.size))
      have HX7 := Lib.hid (HX7.out.next hb)
      clear hb c0 c1
      have c0 := HX7.out.c0
      have c1 := HX7.out.c1
      go_wp2_with fail
      refine (PEw.out _ _ _ HW7.out).mono ?_
      rintro e w7b ⟨rfl, hb⟩
      have HA7 := Lib.hid (HA7.out.next hb)
      have HB7 := Lib.hid (HB7.out.trans (hb.mono HB7.out.size))
      have HX7 := Lib.hid (HX7.out.next hb)
      clear hb c0 c1
      have c0 := HX7.out.c0
      have c1 := HX7.out.c1
      have dN : ((fr - m) != (fr - m)) = false := by simp
      go_wp2_with fail
      refine (AL.out _).mono ?_
      rintro e w8 ⟨rfl, hb⟩
      have HA8 := Lib.hid (HA7.out.next hb)
      have HB8 := Lib.hid (HB7.out.trans (hb.mono HB7.out.size))
      have HX8 := Lib.hid (HX7.out.next hb)
      clear hb c0 c1
      have c0 := HX8.out.c0
      have c1 := HX8.out.c1
      go_wp2_with fail
      refine (PRa.out _ _ _ HA8.out).mono ?_
      rintro e w9 ⟨rfl, hb⟩
      have HA9 := Lib.hid (HA8.out.next hb)
      have HB9 := Lib.hid (HB8.out.trans (hb.mono HB8.out.size))
      have HX9 := Lib.hid (HX8.out.next hb)
      clear hb c0 c1
      have c0 := HX9.out.c0
      have c1 := HX9.out.c1
      go_wp2_with fail
      refine (PEa.out _ _ _ HA9.out).mono ?_
      rintro e w10 ⟨rfl, hb⟩
      have HB10 := Lib.hid (HB9.out.trans (hb.mono HB9.out.size))
      clear hb c0 c1
      go_wp2_with fail
      go_ret
      exact ⟨rfl, HB10.out⟩
end Xm
end Go.Proofs.Ytemdlnphlibcaaa
