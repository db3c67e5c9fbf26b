/- Contracts of the document's own page: Same, Encode, Decode. -/
import Derived.Test.YtegadlmakjceiaaPageEnc
import Derived.Test.YtegadlmakjceiaaPageDec
import Derived.Test.YtegadlmakjceiaaRefSeal
namespace Go.Proofs.Ytegadlmakjceiaa
open Go.RowKit
set_option linter.unusedVariables false

/-- Two rows of the same numbers. -/
theorem psame_yes (ls : List Int) (B B' : Nat) (a c : Option Addr) (n cap cap' : Nat) (w : World) (hn : n ≤ 9223372036854775807)
    (hr : Row w B a n (szs ls)) (hq : Row w B' c n (szs ls)) :
    Calls Try.prog 11 #[.slice a n cap, .slice c n cap'] w fun e w' => e = .returned (.bool true) ∧ ∃ d, w' = w.drewN d := by
  have HR := Lib.hid hr
  have HQ := Lib.hid hq
  have hne : (((n : Nat) : Int) != (n : Int)) = false := by simp
  clear hr hq
  go_enter Try.func11, Try.ntmps11
  go_wp2
  go_loopw [5] (fun i wr => ∃ k : Nat, k ≤ n ∧ i = .int .i64 k ∧ ∃ d, wr = w.drewN d) (fun i _ => n - (intOf i).toNat)
  case atStart => exact ⟨0, Nat.zero_le _, rfl, 0, rfl⟩
  case round =>
    obtain ⟨k, hk, rfl, hw⟩ := hrel
    have HW := Lib.hid hw
    by_cases hlt : k < n
    · obtain ⟨ab, ao, rfl, hab, hac⟩ := HR.out (by omega)
      obtain ⟨cb, co, rfl, hcb, hcc⟩ := HQ.out (by omega)
      have h1 : wr.cell? ⟨ab, ao + k, none⟩ = some (.int .i64 (ls.getD k 0)) := by obtain ⟨d, rfl⟩ := hw; exact hac k hlt
      have h2 : wr.cell? ⟨cb, co + k, none⟩ = some (.int .i64 (ls.getD k 0)) := by obtain ⟨d, rfl⟩ := hw; exact hcc k hlt
      obtain ⟨x, hx⟩ : ∃ x, x = ls.getD k 0 := ⟨_, rfl⟩
      rw [← hx] at h1 h2
      have h3 : (x != x) = false := by simp
      have hk0 : (0 : Int) ≤ (k : Int) := by omega
      have hk1 : (k : Int) < (n : Int) := by omega
      clear hac hcc hw hx
      go_wp2
      go_quiet (fail)
      go_wp2
      go_roundw
      case rel => exact ⟨k + 1, by omega, by go_num, by obtain ⟨d, hd⟩ := HW.out; exact ⟨d + nq, by rw [hd, World.drewN_drewN]⟩⟩
      case measure => simp [intOf]; omega
    · obtain rfl : k = n := by omega
      clear hw
      go_wp2
      go_ret
      exact ⟨rfl, HW.out⟩

theorem rput4 (n : Nat) (w : World) (hn : n < 4294967296) : Calls Try.prog 16 #[.int .u64 (n : Int), .int .i64 4] w fun e w' => e = .returned (.tuple #[.string (Om.B (Om.low n 4)), .int .i64 0]) ∧ Below w.heap.size w w' := by
  have h := rput_any n 4 w (by omega) (by omega)
  unfold putS putE at h
  rw [if_pos (by omega), if_pos (by omega)] at h
  exact h
theorem rseal64 (l : List UInt8) (w : World) (h : l.length ≤ 60) :
    Calls Try.prog 17 #[.string (Om.B l), .int .i64 64] w fun e w' => e = .returned (.tuple #[.string (Om.B (sealed l 60)), .int .i64 0]) ∧ Below w.heap.size w w' := rseal_ok l 60 w (by omega) h
theorem nums_one (g : Nat) (ls : List Int) : Om.low g 4 = Om.joined Pm.zs (Pm.nums g ls) 1 := by
  rw [Om.joined_succ, Om.joined_zero, Pm.nums_zero, Pm.zs_get 0 (by omega)]
  rfl
theorem nums_more (g : Nat) (ls : List Int) (k : Nat) (h : k < 13) : Om.joined Pm.zs (Pm.nums g ls) (k + 1 + 1) = Om.joined Pm.zs (Pm.nums g ls) (k + 1) ++ Om.low ((Pm.nums g ls).getD (k + 1) 0) 4 := by
  rw [Om.joined_succ, Pm.zs_get (k + 1) (by omega)]
  rfl
theorem joined_len (g : Nat) (ls : List Int) (k : Nat) (h : k ≤ 14) : (Om.joined Pm.zs (Pm.nums g ls) k).length = 4 * k := by
  rw [Om.joined_length Pm.zs _ k (by rw [Pm.zs_len]; exact h), Pm.zs_off k h]

set_option maxHeartbeats 800000 in
theorem rpenc_any (g : Nat) (ls : List Int) (B : Nat) (a : Option Addr) (n c : Nat) (w : World) (hg : g < 4294967296) (hl : ls.length = n) (hn : n ≤ 9223372036854775807) (hB : B ≤ w.heap.size) (hr : Row w B a n (szs ls)) :
    Calls Try.prog 8 #[.int .u32 (g : Int), .slice a n c] w fun e w' => e = .returned (.tuple #[.string (Om.B (Pm.encS g ls)), .int .i64 (Pm.encE ls)]) ∧ Below w.heap.size w w' := by
  by_cases h13 : n = 13
  · subst h13
    obtain ⟨ab, ao, rfl, hab, hac⟩ := hr (by omega)
    have HAC := Lib.hid hac
    have HL := Lib.hid hl
    have h1 := nums_one g ls
    have H1 := Lib.hid h1
    clear hac hr hl hn h1
    go_enter Try.func8, Try.ntmps8
    go_wp2_with fail
    refine (rput4 g _ hg).mono ?_
    rintro e w0 ⟨rfl, hb0⟩
    have HB0 := Lib.hid hb0
    clear hb0
    go_wp2
    go_loopw [6, 8] (fun s i wr => ∃ k : Nat, k ≤ 13 ∧ i = .int .i64 k ∧ s = .string (Om.B (Om.joined Pm.zs (Pm.nums g ls) (k + 1))) ∧ Below w.heap.size w wr ∧ Hid (∀ i, i < k → Pm.okC (ls.getD i 0) = true)) (fun _ i _ => 13 - (intOf i).toNat)
    case atStart => exact ⟨0, Nat.zero_le _, rfl, by rw [H1.out], HB0.out, Lib.hid (fun i hi => absurd hi (by omega))⟩
    case round =>
      obtain ⟨k, hk, rfl, rfl, hbel, hall⟩ := hrel
      have HB := Lib.hid hbel
      have hsz := hbel.size
      by_cases hlt : k < 13
      · have hcx : wr.cell? ⟨ab, ao + k, none⟩ = some (.int .i64 (ls.getD k 0)) := by
          rw [hbel.cell (p := ⟨ab, ao + k, none⟩) (Nat.lt_of_lt_of_le hab hB), HAC.out k hlt, szs]
        cases hz : Pm.okC (ls.getD k 0) with
        | true =>
          have hiff := (Pm.okC_iff _).1 hz
          have hnum := Pm.nums_int g ls k (by rw [HL.out]; exact hlt) hz
          have hmore := nums_more g ls k hlt
          have hjl := joined_len g ls (k + 1) (by omega)
          obtain ⟨x, hx⟩ : ∃ x, x = ls.getD k 0 := ⟨_, rfl⟩
          obtain ⟨y, hy⟩ : ∃ y, y = (Pm.nums g ls).getD (k + 1) 0 := ⟨_, rfl⟩
          rw [← hx] at hcx hiff hnum
          rw [← hy] at hnum hmore
          obtain ⟨hx1, hx2⟩ := hiff
          have hxy : x + 1 = (y : Int) := hnum.symm
          have hy32 : y < 4294967296 := by omega
          have d1 : decide (x < -1) = false := by simp; omega
          have d2 : decide (2147483646 < x) = false := by simp; omega
          have hcat := no_over (Om.joined Pm.zs (Pm.nums g ls) (k + 1)) (Om.low y 4) (by rw [hjl, Om.low_length]; omega)
          have HZ := Lib.hid hz
          have HM := Lib.hid hmore
          clear hz hx hy hnum hbel hmore hjl
          go_wp2_with fail
          refine (rput4 y _ hy32).mono ?_
          rintro e w1 ⟨rfl, hb1⟩
          have HB1 := Lib.hid (HB.out.trans (hb1.mono hsz))
          clear hb1
          go_wp2
          go_roundw
          case rel => exact ⟨k + 1, by omega, by go_num, by rw [HM.out, Om.B_append], HB1.out, Lib.hid (fun i hi => by
            by_cases e : i = k
            · subst e; exact HZ.out
            · exact hall.out i (by omega))⟩
          case measure => simp [intOf]; omega
        | false =>
          have hbad := Pm.enc_no g ls (Pm.okL_not ls k hlt hz)
          have hiff : ¬ (-1 ≤ ls.getD k 0 ∧ ls.getD k 0 ≤ 2147483646) := fun c => by rw [(Pm.okC_iff _).2 c] at hz; cases hz
          obtain ⟨x, hx⟩ : ∃ x, x = ls.getD k 0 := ⟨_, rfl⟩
          rw [← hx] at hcx hiff
          have HBAD := Lib.hid hbad
          clear hbad hz hx hbel
          by_cases hx1 : x < -1
          · have d1 : decide (x < -1) = true := by simpa using hx1
            clear hiff
            go_wp2
            go_ret2
            exact ⟨by rw [HBAD.out.1, HBAD.out.2]; rfl, HB.out⟩
          · have d1 : decide (x < -1) = false := by simpa using hx1
            have d2 : decide (2147483646 < x) = true := by simp; omega
            clear hiff
            go_wp2
            go_ret2
            exact ⟨by rw [HBAD.out.1, HBAD.out.2]; rfl, HB.out⟩
      · obtain rfl : k = 13 := by omega
        have hok := okL_of ls HL.out hall.out
        obtain ⟨he1, he2⟩ := Pm.enc_ok g ls hok
        have hbl := Pm.body_len g ls
        have hbd : Om.joined Pm.zs (Pm.nums g ls) (13 + 1) = Pm.body g ls := rfl
        rw [hbd]
        have HBL := Lib.hid hbl
        have E1 := Lib.hid he1
        have E2 := Lib.hid he2
        clear hbl he1 he2 hbel hok hall hbd
        go_wp2_with fail
        refine (rseal64 (Pm.body g ls) _ (by rw [HBL.out]; omega)).mono ?_
        rintro e w3 ⟨rfl, hb3⟩
        have HB3 := Lib.hid (HB.out.trans (hb3.mono hsz))
        clear hb3
        go_wp2
        go_ret2
        exact ⟨by rw [E1.out, E2.out]; rfl, HB3.out⟩
  · have hne : ((n : Int) != 13) = true := by rw [bne_iff_ne]; omega
    have hbad := Pm.enc_no g ls (Pm.okL_len ls (by omega))
    rw [hbad.1, hbad.2]
    clear hbad h13 hr hl
    go_enter Try.func8, Try.ntmps8
    go_wp2
    go_ret2
    exact ⟨rfl, Below.refl _ _⟩
end Go.Proofs.Ytegadlmakjceiaa
