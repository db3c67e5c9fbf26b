/- Contracts of gauge.Least and of the document's own Least. -/
import Derived.Test.YtleajpcoklmgkaaGaugeRef2
import Derived.LoopTactic
import Derived.Deep.QuietTactic
import Derived.BigQuiet
namespace Go.Proofs.Ytleajpcoklmgkaa
open Go.ChangeShapes Go.WideShapes Go.ChangeAt Go.RowKit
set_option linter.unusedVariables false

/-- The place of the first of the least ones among the first k. -/
def bst (zs : List Nat) : Nat → Option Nat
  | 0 => none
  | k + 1 => if Gm.kind (zs.getD k 0) = 0 then bst zs k else match bst zs k with
    | none => some k
    | some j => if Gm.compare (zs.getD k 0) (zs.getD j 0) < 0 then some k else some j
def lv (zs : List Nat) (k : Nat) : Nat := match bst zs k with | none => 0 | some j => zs.getD j 0
def fd (zs : List Nat) (k : Nat) : Bool := (bst zs k).isSome
def pl (zs : List Nat) (k : Nat) : Int := match bst zs k with | none => -1 | some j => (j : Int)

theorem bst_nan (zs : List Nat) (k : Nat) (h : Gm.kind (zs.getD k 0) = 0) : bst zs (k + 1) = bst zs k := by rw [bst, if_pos h]
theorem bst_first (zs : List Nat) (k : Nat) (h : Gm.kind (zs.getD k 0) ≠ 0) (h0 : bst zs k = none) : bst zs (k + 1) = some k := by rw [bst, if_neg h, h0]
theorem bst_less (zs : List Nat) (k j : Nat) (h : Gm.kind (zs.getD k 0) ≠ 0) (h0 : bst zs k = some j) (hc : Gm.compare (zs.getD k 0) (zs.getD j 0) < 0) : bst zs (k + 1) = some k := by rw [bst, if_neg h, h0]; simp only []; rw [if_pos hc]
theorem bst_more (zs : List Nat) (k j : Nat) (h : Gm.kind (zs.getD k 0) ≠ 0) (h0 : bst zs k = some j) (hc : ¬ Gm.compare (zs.getD k 0) (zs.getD j 0) < 0) : bst zs (k + 1) = some j := by rw [bst, if_neg h, h0]; simp only []; rw [if_neg hc]
theorem bst_lt (zs : List Nat) : ∀ (k j : Nat), bst zs k = some j → j < k ∧ Gm.kind (zs.getD j 0) ≠ 0
  | 0, j, h => by cases h
  | k + 1, j, h => by
    by_cases hn : Gm.kind (zs.getD k 0) = 0
    · rw [bst_nan zs k hn] at h
      have := bst_lt zs k j h
      exact ⟨by omega, this.2⟩
    · cases hb : bst zs k with
      | none => rw [bst_first zs k hn hb] at h; cases h; exact ⟨by omega, hn⟩
      | some i =>
        by_cases hc : Gm.compare (zs.getD k 0) (zs.getD i 0) < 0
        · rw [bst_less zs k i hn hb hc] at h; cases h; exact ⟨by omega, hn⟩
        · have hb' := bst_lt zs k i hb
          rw [bst_more zs k i hn hb hc] at h
          cases h
          exact ⟨by omega, hb'.2⟩

/-- What a round does, in the walk's own words. -/
def Round (zs : List Nat) (k : Nat) : Prop :=
  ((Gm.kind (zs.getD k 0) == 0) = true ∧ bst zs (k + 1) = bst zs k) ∨
  ((Gm.kind (zs.getD k 0) == 0) = false ∧ bst zs k = none ∧ bst zs (k + 1) = some k) ∨
  ((Gm.kind (zs.getD k 0) == 0) = false ∧ (∃ j, j < k ∧ bst zs k = some j ∧ decide (Gm.compare (zs.getD k 0) (zs.getD j 0) < 0) = true) ∧ bst zs (k + 1) = some k) ∨
  ((Gm.kind (zs.getD k 0) == 0) = false ∧ (∃ j, j < k ∧ bst zs k = some j ∧ decide (Gm.compare (zs.getD k 0) (zs.getD j 0) < 0) = false ∧ bst zs (k + 1) = some j))
theorem round_of (zs : List Nat) (k : Nat) : Round zs k := by
  by_cases hn : Gm.kind (zs.getD k 0) = 0
  · exact .inl ⟨by simpa using hn, bst_nan zs k hn⟩
  · have hn' : (Gm.kind (zs.getD k 0) == 0) = false := by simpa using hn
    cases hb : bst zs k with
    | none => exact .inr (.inl ⟨hn', hb, bst_first zs k hn hb⟩)
    | some j =>
      have hj := (bst_lt zs k j hb).1
      by_cases hc : Gm.compare (zs.getD k 0) (zs.getD j 0) < 0
      · exact .inr (.inr (.inl ⟨hn', ⟨j, hj, hb, by simpa using hc⟩, bst_less zs k j hn hb hc⟩))
      · exact .inr (.inr (.inr ⟨hn', ⟨j, hj, hb, by simpa using hc, bst_more zs k j hn hb hc⟩⟩))

theorem least_any (zs : List Nat) (b off n cap : Nat) (w : World) (hn : n ≤ 9223372036854775807) (hz : ∀ i, zs.getD i 0 < 18446744073709551616)
    (hc : ∀ i, i < n → w.cell? ⟨b, off + i, none⟩ = some (.float .f64 (zs.getD i 0))) :
    Calls Try.prog 17 #[.slice (some ⟨b, off, none⟩) n cap] w fun e w' => e = .returned (.tuple #[.float .f64 (lv zs n), .bool (fd zs n)]) ∧ w = w' := by
  have HZ := Lib.hid hz
  have HC := Lib.hid hc
  clear hz hc
  go_enter Try.func17, Try.ntmps17
  go_wp2
  go_loop [4, 5, 10] (fun a c i => ∃ k : Nat, k ≤ n ∧ i = .int .i64 k ∧ a = .float .f64 (lv zs k) ∧ c = .bool (fd zs k)) (fun _ _ i => n - (intOf i).toNat)
  case atStart => exact ⟨0, Nat.zero_le _, rfl, rfl, rfl⟩
  case round =>
    obtain ⟨k, hk, rfl, rfl, rfl⟩ := hrel
    by_cases hlt : k < n
    · have hcell := HC.out k hlt
      have hzk := HZ.out k
      obtain ⟨x, hx⟩ : ∃ x, x = zs.getD k 0 := ⟨_, rfl⟩
      have hR := round_of zs k
      unfold Round at hR
      rw [← hx] at hcell hzk hR
      rcases hR with ⟨t1, e1⟩ | ⟨t1, e0, e1⟩ | ⟨t1, ⟨j, hj, e0, t2⟩, e1⟩ | ⟨t1, j, hj, e0, t2, e1⟩
      · have E1 := Lib.hid e1
        clear e1 hx
        go_wp2_with (go_at_call 13; refine (kind_any _ _ hzk).mono ?_; rintro e w' ⟨rfl, rfl⟩)
        go_round
        case rel => exact ⟨k + 1, by omega, by go_num, by unfold lv; rw [E1.out], by unfold fd; rw [E1.out]⟩
        case measure => simp [intOf]; omega
      · have f0 : fd zs k = false := by unfold fd; rw [e0]; rfl
        have E1 := Lib.hid e1
        have HX := Lib.hid hx
        clear e1 e0 hx
        go_wp2_with (go_at_call 13; refine (kind_any _ _ hzk).mono ?_; rintro e w' ⟨rfl, rfl⟩)
        go_round
        case rel => exact ⟨k + 1, by omega, by go_num, by unfold lv; rw [E1.out, HX.out], by unfold fd; rw [E1.out]; rfl⟩
        case measure => simp [intOf]; omega
      · have f0 : fd zs k = true := by unfold fd; rw [e0]; rfl
        have l0 : lv zs k = zs.getD j 0 := by unfold lv; rw [e0]
        rw [← l0] at t2
        have hlk : lv zs k < 18446744073709551616 := by rw [l0]; exact HZ.out j
        have E1 := Lib.hid e1
        have HX := Lib.hid hx
        clear e1 e0 hx l0
        go_wp2_with (first | (go_at_call 13; refine (kind_any _ _ hzk).mono ?_; rintro e w' ⟨rfl, rfl⟩) | (go_at_call 15; refine (compare_any _ _ _ hzk hlk).mono ?_; rintro e w' ⟨rfl, rfl⟩))
        go_round
        case rel => exact ⟨k + 1, by omega, by go_num, by unfold lv; rw [E1.out, HX.out], by unfold fd; rw [E1.out]; rfl⟩
        case measure => simp [intOf]; omega
      · have f0 : fd zs k = true := by unfold fd; rw [e0]; rfl
        have l0 : lv zs k = zs.getD j 0 := by unfold lv; rw [e0]
        have l1 : lv zs (k + 1) = lv zs k := by unfold lv; rw [e0, e1]
        have f1 : fd zs (k + 1) = true := by unfold fd; rw [e1]; rfl
        rw [← l0] at t2
        have hlk : lv zs k < 18446744073709551616 := by rw [l0]; exact HZ.out j
        have L1 := Lib.hid l1
        have F1 := Lib.hid f1
        clear e1 e0 hx l0 l1 f1
        go_wp2_with (first | (go_at_call 13; refine (kind_any _ _ hzk).mono ?_; rintro e w' ⟨rfl, rfl⟩) | (go_at_call 15; refine (compare_any _ _ _ hzk hlk).mono ?_; rintro e w' ⟨rfl, rfl⟩))
        go_round
        case rel => exact ⟨k + 1, by omega, by go_num, by rw [L1.out], by rw [F1.out]⟩
        case measure => simp [intOf]; omega
    · obtain rfl : k = n := by omega
      go_wp2
      go_ret2
      exact ⟨rfl, rfl⟩

theorem quiet_left {P : Program} {f : FuncId} {args : Array Value} {w : World} {n : Nat} {v : Value}
    (h : Calls P f args (w.drewN n) fun e w' => e = .returned v ∧ w.drewN n = w') : Calls P f args (w.drewN n) fun e w'' => e = .returned v ∧ ∃ m, w'' = w.drewN m :=
  h.mono fun _ _ ⟨he, hm⟩ => ⟨he, n, hm.symm⟩
theorem drew_more {w wr : World} (h : ∃ d, wr = w.drewN d) (n : Nat) : ∃ d, wr.drewN n = w.drewN d := by
  obtain ⟨d, rfl⟩ := h
  exact ⟨d + n, by rw [World.drewN_drewN]⟩

theorem rleast_any (zs : List Nat) (b off n cap : Nat) (w : World) (hn : n ≤ 9223372036854775807) (hz : ∀ i, zs.getD i 0 < 18446744073709551616)
    (hc : ∀ i, i < n → w.cell? ⟨b, off + i, none⟩ = some (.int .u64 ((zs.getD i 0 : Nat) : Int))) :
    Calls Try.prog 18 #[.slice (some ⟨b, off, none⟩) n cap] w fun e w' => e = .returned (.int .i64 (pl zs n)) ∧ ∃ d, w' = w.drewN d := by
  have HZ := Lib.hid hz
  have HC := Lib.hid hc
  clear hz hc
  go_enter Try.func18, Try.ntmps18
  go_wp2
  go_loopw [3, 4] (fun a i wr => ∃ k : Nat, k ≤ n ∧ i = .int .i64 k ∧ a = .int .i64 (pl zs k) ∧ ∃ d, wr = w.drewN d) (fun _ i _ => n - (intOf i).toNat)
  case atStart => exact ⟨0, Nat.zero_le _, rfl, rfl, 0, rfl⟩
  case round =>
    obtain ⟨k, hk, rfl, rfl, hw⟩ := hrel
    have HW := Lib.hid hw
    by_cases hlt : k < n
    · have hcw : ∀ i, i < n → wr.cell? ⟨b, off + i, none⟩ = some (.int .u64 ((zs.getD i 0 : Nat) : Int)) := by
        obtain ⟨d, rfl⟩ := hw
        exact fun i hi => HC.out i hi
      have HCW := Lib.hid hcw
      have hcell := hcw k hlt
      have hzk := HZ.out k
      clear hcw hw
      obtain ⟨x, hx⟩ : ∃ x, x = zs.getD k 0 := ⟨_, rfl⟩
      have hR := round_of zs k
      unfold Round at hR
      rw [← hx] at hcell hzk hR
      rcases hR with ⟨t1, e1⟩ | ⟨t1, e0, e1⟩ | ⟨t1, ⟨j, hj, e0, t2⟩, e1⟩ | ⟨t1, j, hj, e0, t2, e1⟩
      · have E1 := Lib.hid e1
        clear e1 hx
        go_wp2_with (go_at_call 14; refine (rkind_any _ _ hzk).mono ?_; rintro e w' ⟨rfl, rfl⟩)
        go_roundw
        case rel => exact ⟨k + 1, by omega, by go_num, by unfold pl; rw [E1.out], HW.out⟩
        case measure => simp [intOf]; omega
      · have g : decide (pl zs k < 0) = true := by unfold pl; rw [e0]; rfl
        have E1 := Lib.hid e1
        clear e1 e0 hx
        go_wp2_with (go_at_call 14; refine (rkind_any _ _ hzk).mono ?_; rintro e w' ⟨rfl, rfl⟩)
        go_quiet (fail)
        go_wp2
        go_roundw
        case rel => exact ⟨k + 1, by omega, by go_num, by unfold pl; rw [E1.out], drew_more HW.out _⟩
        case measure => simp [intOf]; omega
      · have p0 : pl zs k = (j : Int) := by unfold pl; rw [e0]
        have hcj := HCW.out j (by omega)
        have hzj := HZ.out j
        obtain ⟨y, hy⟩ : ∃ y, y = zs.getD j 0 := ⟨_, rfl⟩
        rw [← hy] at hcj hzj t2
        have g : decide ((j : Int) < 0) = false := by simp
        have hjn : j < n := by omega
        have E1 := Lib.hid e1
        clear e1 e0 hx hy
        go_wp2_with (go_at_call 14; refine (rkind_any _ _ hzk).mono ?_; rintro e w' ⟨rfl, rfl⟩)
        go_quiet ((go_at_call 16; exact quiet_left (rcompare_any _ _ _ hzk hzj)))
        go_wp2
        go_roundw
        case rel => exact ⟨k + 1, by omega, by go_num, by unfold pl; rw [E1.out], drew_more HW.out _⟩
        case measure => simp [intOf]; omega
      · have p0 : pl zs k = (j : Int) := by unfold pl; rw [e0]
        have hcj := HCW.out j (by omega)
        have hzj := HZ.out j
        obtain ⟨y, hy⟩ : ∃ y, y = zs.getD j 0 := ⟨_, rfl⟩
        rw [← hy] at hcj hzj t2
        have g : decide ((j : Int) < 0) = false := by simp
        have hjn : j < n := by omega
        have E1 := Lib.hid e1
        clear e1 e0 hx hy
        go_wp2_with (go_at_call 14; refine (rkind_any _ _ hzk).mono ?_; rintro e w' ⟨rfl, rfl⟩)
        go_quiet ((go_at_call 16; exact quiet_left (rcompare_any _ _ _ hzk hzj)))
        go_wp2
        go_roundw
        case rel => exact ⟨k + 1, by omega, by go_num, by unfold pl; rw [E1.out], drew_more HW.out _⟩
        case measure => simp [intOf]; omega
    · obtain rfl : k = n := by omega
      go_wp2
      go_ret
      exact ⟨rfl, HW.out⟩
end Go.Proofs.Ytleajpcoklmgkaa
