/- The contract of the document's own Join of numbers as bytes. -/
import Derived.Test.YtncbimgbjkdocaaOctetJoin
import Derived.Test.YtncbimgbjkdocaaOctetRPut
import Derived.Deep.RegionHeld3
namespace Go.Proofs.Ytncbimgbjkdocaa
open Go.RowKit
set_option maxRecDepth 100000
set_option linter.unusedVariables false

theorem rjoin_any (zs : List Int) (ls : List Nat) (B : Nat) (a c : Option Addr) (n m cap cap' : Nat) (w : World) (hl : zs.length = n) (hm : ls.length = m) (hn : n ≤ 1099511627776) (hn' : m ≤ 1099511627776) (hB : B ≤ w.heap.size)
    (hr : Row w B a n (szs zs)) (hq : Row w B c m (nbs ls)) (hu : ∀ i, ls.getD i 0 < 18446744073709551616) :
    Calls Try.prog 28 #[.slice a n cap, .slice c m cap'] w fun e w' => e = .returned (.tuple #[.string (Om.B (joinS zs ls)), .int .i64 (joinE zs ls)]) ∧ Below w.heap.size w w' := by
  by_cases hnm : n = m
  · subst hnm
    have hne : (((n : Nat) : Int) != (n : Int)) = false := by simp
    have HL := Lib.hid hl
    have HM := Lib.hid hm
    have HR := Lib.hid hr
    have HQ := Lib.hid hq
    have HU := Lib.hid hu
    clear hl hm hr hq hu
    go_enter Try.func28, Try.ntmps28
    go_wp2
    go_loop [6] (fun i => ∃ k : Nat, k ≤ n ∧ i = .int .i64 k ∧ Hid (∀ i, i < k → Om.sizeOk (zs.getD i 0) = true)) (fun i => n - (intOf i).toNat)
    case atStart => exact ⟨0, Nat.zero_le _, rfl, Lib.hid (fun i hi => absurd hi (by omega))⟩
    case round =>
      obtain ⟨k, hk, rfl, hall⟩ := hrel
      by_cases hlt : k < n
      · obtain ⟨b, off, rfl, hb, hc⟩ := HR.out (by omega)
        have hcell := hc k hlt
        unfold szs at hcell
        clear hc
        obtain ⟨x, hx⟩ : ∃ x, x = zs.getD k 0 := ⟨_, rfl⟩
        rw [← hx] at hcell
        by_cases hz : 0 ≤ x ∧ x ≤ 8
        · have HX := Lib.hid hx
          have hx0 : decide (x < 0) = false := by simp; omega
          have hx8 : decide (8 < x) = false := by simp; omega
          clear hx
          go_wp2
          go_round
          case rel => exact ⟨k + 1, by omega, by go_num, Lib.hid (fun i hi => by
            by_cases e : i = k
            · subst e; rw [← HX.out, Om.sizeOk_iff]; exact hz
            · exact hall.out i (by omega))⟩
          case measure => simp [intOf]; omega
        · have hno : Om.sizesOk zs = false := sizesOk_not zs k (by rw [HL.out]; exact hlt) (by rw [← hx]; exact hz)
          obtain ⟨hS, hE⟩ := join_sizes zs ls hno
          have HS := Lib.hid hS
          have HE := Lib.hid hE
          clear hno hx hS hE
          by_cases hx0 : x < 0
          · have hx0' : decide (x < 0) = true := by simpa using hx0
            clear hz
            go_wp2
            go_ret2
            exact ⟨by rw [HS.out, HE.out]; rfl, Below.refl _ _⟩
          · have hx0' : decide (x < 0) = false := by simpa using hx0
            have hx8 : decide (8 < x) = true := by simp; omega
            clear hz
            go_wp2
            go_ret2
            exact ⟨by rw [HS.out, HE.out]; rfl, Below.refl _ _⟩
      · obtain rfl : k = n := by omega
        have hyes : Om.sizesOk zs = true := sizesOk_of zs (fun i hi => hall.out i (by rw [HL.out] at hi; exact hi))
        have HOK := Lib.hid hyes
        clear hyes hall
        go_wp2
        go_loopw [7, 8] (fun s i wr => ∃ j : Nat, j ≤ k ∧ i = .int .i64 j ∧ s = .string (Om.B (Om.joined zs ls j)) ∧ Below w.heap.size w wr ∧ Hid (∀ i, i < j → ls.getD i 0 < 256 ^ (zs.getD i 0).toNat)) (fun _ i _ => k - (intOf i).toNat)
        case atStart => exact ⟨0, Nat.zero_le _, rfl, rfl, Below.refl _ _, Lib.hid (fun i hi => absurd hi (by omega))⟩
        case round =>
          obtain ⟨j, hj, rfl, rfl, hbel, hall⟩ := hrel
          have HB := Lib.hid hbel
          clear hbel
          by_cases hlt' : j < k
          · obtain ⟨ab, ao, rfl, hab, hac⟩ := HR.out (by omega)
            obtain ⟨cb, co, rfl, hcb, hcc⟩ := HQ.out (by omega)
            obtain ⟨d, hd⟩ : ∃ d : Nat, zs.getD j 0 = (d : Int) := Int.eq_ofNat_of_zero_le (Om.sizes_at zs HOK.out j).1
            have hd8 : d ≤ 8 := by have := (Om.sizes_at zs HOK.out j).2; omega
            obtain ⟨y, hy⟩ : ∃ y, y = ls.getD j 0 := ⟨_, rfl⟩
            have hy64 : y < 18446744073709551616 := by rw [hy]; exact HU.out j
            have hcz : wr.cell? ⟨ab, ao + j, none⟩ = some (.int .i64 (d : Int)) := by
              rw [HB.out.cell (p := ⟨ab, ao + j, none⟩) (Nat.lt_of_lt_of_le hab hB), hac j hlt', szs, hd]
            have hcn : wr.cell? ⟨cb, co + j, none⟩ = some (.int .u64 (y : Int)) := by
              rw [HB.out.cell (p := ⟨cb, co + j, none⟩) (Nat.lt_of_lt_of_le hcb hB), hcc j hlt', nbs, hy]
            have hz1 : ab < wr.heap.size := Nat.lt_of_lt_of_le hab (Nat.le_trans hB HB.out.size)
            have hz2 : cb < wr.heap.size := Nat.lt_of_lt_of_le hcb (Nat.le_trans hB HB.out.size)
            have HY := Lib.hid hy
            have HD := Lib.hid hd
            have hj0 : (0 : Int) ≤ (j : Int) := by omega
            have hj1 : (j : Int) < (k : Int) := by omega
            clear hac hcc hy hd
            by_cases hf : y < 256 ^ d
            · have hE0 : (putE y d != 0) = false := by unfold putE; rw [if_pos hf]; rfl
              have hcat := no_over (Om.joined zs ls j) (putS y d) (by
                have h1 := Om.joined_length zs ls j (by rw [HL.out]; exact hj)
                have h2 := Om.off_le zs HOK.out j
                have h3 : (putS y d).length ≤ 8 := by unfold putS; rw [if_pos hf, Om.low_length]; exact hd8
                omega)
              have hS1 : Om.joined zs ls j ++ putS y d = Om.joined zs ls (j + 1) := by unfold putS; rw [if_pos hf, Om.joined_succ, HY.out, HD.out, Int.toNat_natCast]
              have HS1 := Lib.hid hS1
              have HF := Lib.hid hf
              clear hf hS1
              go_wp2
              go_region_held3 (fun w' => w'.cell? ⟨cb, co + j, none⟩ = some (.int .u64 (y : Int)) ∧ w'.cell? ⟨ab, ao + j, none⟩ = some (.int .i64 (d : Int)))
                (first | go_keep | (refine ⟨(hb1.cell (p := ⟨cb, co + j, none⟩) (by simpa using hz2)).trans hcn, (hb1.cell (p := ⟨ab, ao + j, none⟩) (by simpa using hz1)).trans hcz⟩))
                (first | (go_at_call 42; refine (rput_any y d _ hd8 hy64).mono ?_; rintro e w1 ⟨rfl, hb1⟩))
              have hbel1 : Below w.heap.size w w1 := HB.out.trans ⟨hb1.os, hb1.tape, hb1.output, hb1.size, fun q hq => hb1.block q (Nat.lt_of_lt_of_le hq HB.out.size)⟩
              have HB1 := Lib.hid hbel1
              clear hbel1 hb1 hcz hcn
              go_wp2
              go_roundw
              case rel => exact ⟨j + 1, by omega, by go_num, by rw [Om.B_append, HS1.out], HB1.out, Lib.hid (fun i hi => by
                by_cases e : i = j
                · subst e; rw [← HY.out, HD.out, Int.toNat_natCast]; exact HF.out
                · exact hall.out i (by omega))⟩
              case measure => simp [intOf]; omega
            · have hE0 : (putE y d != 0) = true := by unfold putE; rw [if_neg hf]; rfl
              obtain ⟨hS, hE⟩ := join_big zs ls j (by rw [HL.out, HM.out]) HOK.out (by rw [HM.out]; exact hlt') (by rw [← HY.out, HD.out, Int.toNat_natCast]; exact hf)
              have HS := Lib.hid hS
              have HE := Lib.hid hE
              have hE2 : putE y d = 2 := by unfold putE; rw [if_neg hf]
              have HE2 := Lib.hid hE2
              clear hf hS hE hE2
              go_wp2
              go_region_held3 (fun w' => w'.cell? ⟨cb, co + j, none⟩ = some (.int .u64 (y : Int)) ∧ w'.cell? ⟨ab, ao + j, none⟩ = some (.int .i64 (d : Int)))
                (first | go_keep | (refine ⟨(hb1.cell (p := ⟨cb, co + j, none⟩) (by simpa using hz2)).trans hcn, (hb1.cell (p := ⟨ab, ao + j, none⟩) (by simpa using hz1)).trans hcz⟩))
                (first | (go_at_call 42; refine (rput_any y d _ hd8 hy64).mono ?_; rintro e w1 ⟨rfl, hb1⟩))
              have hbel1 : Below w.heap.size w w1 := HB.out.trans ⟨hb1.os, hb1.tape, hb1.output, hb1.size, fun q hq => hb1.block q (Nat.lt_of_lt_of_le hq HB.out.size)⟩
              have HB1 := Lib.hid hbel1
              clear hbel1 hb1 hcz hcn
              go_wp2
              go_ret2
              exact ⟨by rw [HS.out, HE.out, ← HE2.out]; rfl, HB1.out⟩
          · obtain rfl : j = k := by omega
            obtain ⟨hS, hE⟩ := join_ok zs ls (by rw [HL.out, HM.out]) HOK.out (fitAll_of zs ls _ (by rw [HM.out]; exact hall.out))
            have HS := Lib.hid hS
            have HE := Lib.hid hE
            clear hS hE
            go_wp2
            go_ret2
            exact ⟨by rw [HS.out, HE.out, HM.out]; rfl, HB.out⟩
  · have hne : ((n : Int) != (m : Int)) = true := by rw [bne_iff_ne]; omega
    obtain ⟨hS, hE⟩ := join_len zs ls (by omega)
    rw [hS, hE]
    clear hS hE hl hm hr hq hu hnm
    go_enter Try.func28, Try.ntmps28
    go_wp2
    go_ret2
    exact ⟨rfl, Below.refl _ _⟩
end Go.Proofs.Ytncbimgbjkdocaa
