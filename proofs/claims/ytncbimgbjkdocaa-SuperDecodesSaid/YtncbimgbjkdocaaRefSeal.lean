/- Contracts of the document's own Seal and Open. -/
import Derived.Test.YtncbimgbjkdocaaRefSum
import Derived.Test.YtncbimgbjkdocaaCrcOpen
import Derived.Test.YtncbimgbjkdocaaOctetRPad
import Derived.Test.YtncbimgbjkdocaaOctetRNum
namespace Go.Proofs.Ytncbimgbjkdocaa
open Go.RowKit
set_option maxRecDepth 100000
set_option linter.unusedVariables false

theorem rfour_any (l : List UInt8) (w : World) : Calls Try.prog 42 #[.int .u64 (Cm.sum l : Int), .int .i64 4] w fun e w' => e = .returned (.tuple #[.string (Om.B (Cm.four l)), .int .i64 0]) ∧ Below w.heap.size w w' := by
  have hs := Cm.sum_lt l
  have h := rput_any (Cm.sum l) 4 w (by omega) (by omega)
  unfold putS putE at h
  rw [if_pos (by omega), if_pos (by omega)] at h
  exact h

theorem rseal_arg (l : List UInt8) (z : Int) (w : World) (h : ¬ (4 ≤ z ∧ z ≤ 4096)) :
    Calls Try.prog 29 #[.string (Om.B l), .int .i64 z] w fun e w' => e = .returned (.tuple #[.string (Om.B []), .int .i64 1]) ∧ w = w' := by
  by_cases h1 : z < 4
  · have d1 : decide (z < 4) = true := by simpa using h1
    clear h h1
    go_enter Try.func29, Try.ntmps29
    go_wp2
    go_ret2
    exact ⟨rfl, rfl⟩
  · have d1 : decide (z < 4) = false := by simpa using h1
    have d2 : decide (4096 < z) = true := by simp; omega
    clear h h1
    go_enter Try.func29, Try.ntmps29
    go_wp2
    go_ret2
    exact ⟨rfl, rfl⟩
theorem rseal_long (l : List UInt8) (k : Nat) (w : World) (hk : k + 4 ≤ 4096) (h : k < l.length) :
    Calls Try.prog 29 #[.string (Om.B l), .int .i64 ((k + 4 : Nat) : Int)] w fun e w' => e = .returned (.tuple #[.string (Om.B []), .int .i64 2]) ∧ w = w' := by
  have d1 : decide (((k + 4 : Nat) : Int) < 4) = false := by simp; omega
  have d2 : decide (4096 < ((k + 4 : Nat) : Int)) = false := by simp; omega
  have hz : ((k + 4 : Nat) : Int) - 4 = (k : Int) := by omega
  obtain ⟨z, hze⟩ : ∃ z : Int, z = ((k + 4 : Nat) : Int) := ⟨_, rfl⟩
  rw [← hze] at d1 d2 hz ⊢
  have hz1 : 4 ≤ z := by omega
  have hz2 : z ≤ 4096 := by omega
  have HZ := Lib.hid hz
  clear hze hz
  go_enter Try.func29, Try.ntmps29
  go_wp2_with fail
  rw [HZ.out]
  refine (rpad_no l (k : Int) _ (by omega)).mono ?_
  rintro e w' ⟨rfl, rfl⟩
  go_wp2
  go_ret2
  exact ⟨rfl, rfl⟩
theorem rseal_ok (l : List UInt8) (k : Nat) (w : World) (hk : k + 4 ≤ 4096) (h : l.length ≤ k) :
    Calls Try.prog 29 #[.string (Om.B l), .int .i64 ((k + 4 : Nat) : Int)] w fun e w' => e = .returned (.tuple #[.string (Om.B (sealed l k)), .int .i64 0]) ∧ Below w.heap.size w w' := by
  have d1 : decide (((k + 4 : Nat) : Int) < 4) = false := by simp; omega
  have d2 : decide (4096 < ((k + 4 : Nat) : Int)) = false := by simp; omega
  have hz : ((k + 4 : Nat) : Int) - 4 = (k : Int) := by omega
  obtain ⟨z, hze⟩ : ∃ z : Int, z = ((k + 4 : Nat) : Int) := ⟨_, rfl⟩
  rw [← hze] at d1 d2 hz ⊢
  have hz1 : 4 ≤ z := by omega
  have hz2 : z ≤ 4096 := by omega
  have HZ := Lib.hid hz
  have hlen := padTo_length l k h
  have hcat := no_over (padTo l k) (Cm.four (padTo l k)) (by rw [hlen, Cm.four_length]; omega)
  have hs := Cm.sum_lt (padTo l k)
  have HLEN := Lib.hid hlen
  clear hze hz hlen
  go_enter Try.func29, Try.ntmps29
  go_wp2_with fail
  rw [HZ.out]
  refine (rpad_ok l k _ h (by omega)).mono ?_
  rintro e w1 ⟨rfl, rfl⟩
  go_wp2_with fail
  refine (rsum_any (padTo l k) _ (by rw [HLEN.out]; omega)).mono ?_
  rintro e w2 ⟨rfl, hb2⟩
  have HB2 := Lib.hid hb2
  clear hb2
  go_wp2_with fail
  refine (rfour_any (padTo l k) _).mono ?_
  rintro e w3 ⟨rfl, hb3⟩
  have HB3 := Lib.hid (HB2.out.trans (hb3.mono HB2.out.size))
  clear hb3
  go_wp2
  go_ret2
  exact ⟨by unfold sealed; rw [← Om.B_append]; rfl, HB3.out⟩

theorem ropen_cut (l : List UInt8) (w : World) (h : l.length < 4) :
    Calls Try.prog 35 #[.string (Om.B l)] w fun e w' => e = .returned (.tuple #[.string (Om.B []), .int .i64 21]) ∧ w = w' := by
  have d1 : decide (((Om.B l).size : Int) < 4) = true := by rw [Om.B_size]; simp; omega
  clear h
  go_enter Try.func35, Try.ntmps35
  go_wp2
  go_ret2
  exact ⟨rfl, rfl⟩
theorem num_four (p q : List UInt8) (hq : q.length = 4) : (((Om.num q : Nat) : Int) != (Cm.sum p : Int)) = !decide (q = Cm.four p) := by
  by_cases h : q = Cm.four p
  · have : Om.num q = Cm.sum p := by
      rw [h]
      unfold Cm.four
      rw [Om.num_low, Nat.mod_eq_of_lt (Cm.sum_lt p)]
    rw [this, decide_eq_true h]
    simp
  · rw [decide_eq_false h]
    show _ = true
    rw [bne_iff_ne]
    intro c
    apply h
    have e : Om.num q = Cm.sum p := by omega
    unfold Cm.four
    rw [← e, ← hq, Om.low_num]
theorem ropen_parts (p q : List UInt8) (b : Bool) (w : World) (hq : q.length = 4) (hp : p.length ≤ 1048576) (hg : (((Om.num q : Nat) : Int) != (Cm.sum p : Int)) = !b) :
    Calls Try.prog 35 #[.string (Om.B (p ++ q))] w fun e w' => (if b then e = .returned (.tuple #[.string (Om.B p), .int .i64 0]) else e = .returned (.tuple #[.string (Om.B []), .int .i64 31])) ∧ Below w.heap.size w w' := by
  obtain ⟨s, n, hs, hn, hsz, he1, he2⟩ := open_parts p q hq
  rw [← hs]
  have hd : decide ((n : Int) + 4 < 4) = false := by simp; omega
  have hp' : n ≤ 1048576 := by omega
  have hss := Cm.sum_lt p
  have hi0 : (0 : Int) ≤ (n : Int) := by omega
  have hi1 : (n : Int) ≤ (n : Int) + 4 := by omega
  have hq8 : q.length ≤ 8 := by omega
  clear hs hn hq
  obtain ⟨x, hx⟩ : ∃ x, x = Cm.sum p := ⟨_, rfl⟩
  have C := Lib.hid (fun w1 => rsum_any p w1 hp)
  rw [← hx] at C hg hss
  clear hx hp
  cases b with
  | false =>
    rw [Bool.not_false] at hg
    go_enter Try.func35, Try.ntmps35
    go_wp2_with fail
    refine (number_any q _ hq8).mono ?_
    rintro e w1 ⟨rfl, rfl⟩
    go_wp2_with fail
    refine (C.out _).mono ?_
    rintro e w2 ⟨rfl, hb⟩
    have HB := Lib.hid hb
    clear hb
    go_wp2
    go_ret2
    exact ⟨rfl, HB.out⟩
  | true =>
    rw [Bool.not_true] at hg
    go_enter Try.func35, Try.ntmps35
    go_wp2_with fail
    refine (number_any q _ hq8).mono ?_
    rintro e w1 ⟨rfl, rfl⟩
    go_wp2_with fail
    refine (C.out _).mono ?_
    rintro e w2 ⟨rfl, hb⟩
    have HB := Lib.hid hb
    clear hb
    go_wp2
    go_ret2
    exact ⟨rfl, HB.out⟩
/-- What the document's Open tells of any bytes. -/
theorem ropen_any (l : List UInt8) (w : World) (h4 : 4 ≤ l.length) (hl : l.length ≤ 1048576) :
    Calls Try.prog 35 #[.string (Om.B l)] w fun e w' => (if Cm.good l then e = .returned (.tuple #[.string (Om.B (l.take (l.length - 4))), .int .i64 0]) else e = .returned (.tuple #[.string (Om.B []), .int .i64 31])) ∧ Below w.heap.size w w' := by
  have hq : (l.drop (l.length - 4)).length = 4 := by rw [List.length_drop]; omega
  have hp : (l.take (l.length - 4)).length ≤ 1048576 := by rw [List.length_take]; omega
  have e : l.take (l.length - 4) ++ l.drop (l.length - 4) = l := List.take_append_drop _ _
  have h := ropen_parts _ _ (Cm.good l) w hq hp (by
    rw [num_four _ _ hq]
    unfold Cm.good
    by_cases hg : l.drop (l.length - 4) = Cm.four (l.take (l.length - 4))
    · rw [decide_eq_true hg, beq_iff_eq.2 hg]
    · rw [decide_eq_false hg, beq_eq_false_iff_ne.2 hg])
  rw [e] at h
  exact h
end Go.Proofs.Ytncbimgbjkdocaa
