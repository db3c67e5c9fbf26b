/- Contracts of crc's Seal and Open. -/
import Derived.Test.YtncbimgbjkdocaaCrcSum
import Derived.Test.YtncbimgbjkdocaaOctetPad
import Derived.Deep.RegionHeld3
import Derived.RegionTactic
namespace Go.Proofs.Ytncbimgbjkdocaa
open Go.RowKit
set_option maxRecDepth 100000
set_option linter.unusedVariables false

theorem seal_arg (l : List UInt8) (z : Int) (w : World) (h : ¬ (4 ≤ z ∧ z ≤ 4096)) :
    Calls Try.prog 15 #[.string (Om.B l), .int .i64 z] w fun e w' => e = .returned (.tuple #[.string (Om.B []), .int .i64 1]) ∧ w = w' := by
  by_cases h1 : z < 4
  · have d1 : decide (z < 4) = true := by simpa using h1
    clear h h1
    go_enter Try.func15, Try.ntmps15
    go_wp2
    go_ret2
    exact ⟨rfl, rfl⟩
  · have d1 : decide (z < 4) = false := by simpa using h1
    have d2 : decide (4096 < z) = true := by simp; omega
    clear h h1
    go_enter Try.func15, Try.ntmps15
    go_wp2
    go_ret2
    exact ⟨rfl, rfl⟩
theorem seal_long (l : List UInt8) (k : Nat) (w : World) (hk : k + 4 ≤ 4096) (h : k < l.length) :
    Calls Try.prog 15 #[.string (Om.B l), .int .i64 ((k + 4 : Nat) : Int)] w fun e w' => e = .returned (.tuple #[.string (Om.B []), .int .i64 2]) ∧ w = w' := by
  have d1 : decide (((k + 4 : Nat) : Int) < 4) = false := by simp; omega
  have d2 : decide (4096 < ((k + 4 : Nat) : Int)) = false := by simp; omega
  have hz : ((k + 4 : Nat) : Int) - 4 = (k : Int) := by omega
  obtain ⟨z, hze⟩ : ∃ z : Int, z = ((k + 4 : Nat) : Int) := ⟨_, rfl⟩
  rw [← hze] at d1 d2 hz ⊢
  have hz1 : 4 ≤ z := by omega
  have hz2 : z ≤ 4096 := by omega
  have HZ := Lib.hid hz
  clear hze hz
  go_enter Try.func15, Try.ntmps15
  go_wp2_with fail
  rw [HZ.out]
  refine (pad_no l (k : Int) _ (by omega)).mono ?_
  rintro e w' ⟨rfl, rfl⟩
  go_wp2
  go_ret2
  exact ⟨rfl, rfl⟩
/-- Sealed bytes. -/
def sealed (l : List UInt8) (k : Nat) : List UInt8 := padTo l k ++ Cm.four (padTo l k)
theorem seal_ok (l : List UInt8) (k : Nat) (w : World) (hk : k + 4 ≤ 4096) (h : l.length ≤ k) :
    Calls Try.prog 15 #[.string (Om.B l), .int .i64 ((k + 4 : Nat) : Int)] w fun e w' => e = .returned (.tuple #[.string (Om.B (sealed l k)), .int .i64 0]) ∧ Below w.heap.size w w' := by
  have d1 : decide (((k + 4 : Nat) : Int) < 4) = false := by simp; omega
  have d2 : decide (4096 < ((k + 4 : Nat) : Int)) = false := by simp; omega
  have hz : ((k + 4 : Nat) : Int) - 4 = (k : Int) := by omega
  obtain ⟨z, hze⟩ : ∃ z : Int, z = ((k + 4 : Nat) : Int) := ⟨_, rfl⟩
  rw [← hze] at d1 d2 hz ⊢
  have hz1 : 4 ≤ z := by omega
  have hz2 : z ≤ 4096 := by omega
  have HZ := Lib.hid hz
  have hlen := padTo_length l k h
  have hcat := no_over (padTo l k) (Cm.four (padTo l k)) (by rw [hlen, Cm.four_length]; omega)
  have HLEN := Lib.hid hlen
  clear hze hz hlen
  go_enter Try.func15, Try.ntmps15
  go_wp2_with fail
  rw [HZ.out]
  refine (pad_ok l k _ h (by omega)).mono ?_
  rintro e w1 ⟨rfl, hb1⟩
  have HB1 := Lib.hid hb1
  clear hb1
  go_wp2_with fail
  refine (seal_any (padTo l k) _ (by rw [HLEN.out]; omega)).mono ?_
  rintro e w2 ⟨rfl, hb2⟩
  have HB2 := Lib.hid hb2
  clear hb2
  go_wp2
  go_ret2
  exact ⟨by unfold sealed; rw [← Om.B_append]; rfl, HB1.out.trans (HB2.out.mono HB1.out.size)⟩

theorem open_cut (l : List UInt8) (w : World) (h : l.length < 4) :
    Calls Try.prog 31 #[.string (Om.B l)] w fun e w' => e = .returned (.tuple #[.string (Om.B []), .int .i64 21]) ∧ w = w' := by
  have d1 : decide (((Om.B l).size : Int) < 4) = true := by rw [Om.B_size]; simp; omega
  clear h
  go_enter Try.func31, Try.ntmps31
  go_wp2
  go_ret2
  exact ⟨rfl, rfl⟩
/-- What Open's walks need of the bytes. -/
theorem open_parts (p q : List UInt8) (hq : q.length = 4) : ∃ s n, s = Om.B (p ++ q) ∧ n = p.length ∧ s.size = n + 4 ∧ s.extract n (n + 4) = Om.B q ∧ s.extract 0 n = Om.B p := by
  have hsz : (Om.B (p ++ q)).size = p.length + 4 := by rw [Om.B_size, List.length_append, hq]
  refine ⟨_, _, rfl, rfl, hsz, ?_, ?_⟩
  · rw [← hsz, Om.extract_end, Om.L_B, List.drop_left]
  · rw [Om.extract_front, Om.L_B, List.take_left]
theorem B_ne {p q : List UInt8} (h : p ≠ q) : ((Om.B p).toList == (Om.B q).toList) = false := by
  rw [beq_eq_false_iff_ne, Lib.toList_data, Lib.toList_data]
  intro c
  exact h (by rw [← Om.L_B p, ← Om.L_B q]; exact c)
theorem open_ok (p q : List UInt8) (w : World) (hq : q.length = 4) (hp : p.length ≤ 1048576) (hg : q = Cm.four p) :
    Calls Try.prog 31 #[.string (Om.B (p ++ q))] w fun e w' => e = .returned (.tuple #[.string (Om.B p), .int .i64 0]) ∧ Below w.heap.size w w' := by
  obtain ⟨s, n, hs, hn, hsz, he1, he2⟩ := open_parts p q hq
  rw [← hs]
  have hd : decide ((n : Int) + 4 < 4) = false := by simp; omega
  have hp' : n ≤ 1048576 := by omega
  have hpl : p.length ≤ 4611686018427387904 := by omega
  rw [hg] at he1
  have hi0 : (0 : Int) ≤ (n : Int) := by omega
  have hi1 : (n : Int) ≤ (n : Int) + 4 := by omega
  clear hs hn hq hg hp
  go_enter Try.func31, Try.ntmps31
  go_wp2
  go_region_held3 (fun _ => True) (first | go_keep | trivial) (first | (go_at_call 27; refine (seal_any p _ hpl).mono ?_; rintro e w1 ⟨rfl, hb1⟩))
  have hbel : Below w.heap.size w w1 := ⟨hb1.os, hb1.tape, hb1.output, hb1.size, hb1.block⟩
  have HB := Lib.hid hbel
  clear hbel hb1
  go_wp2
  go_ret2
  exact ⟨rfl, HB.out⟩
theorem open_bad (p q : List UInt8) (w : World) (hq : q.length = 4) (hp : p.length ≤ 1048576) (hg : q ≠ Cm.four p) :
    Calls Try.prog 31 #[.string (Om.B (p ++ q))] w fun e w' => e = .returned (.tuple #[.string (Om.B []), .int .i64 31]) ∧ Below w.heap.size w w' := by
  obtain ⟨s, n, hs, hn, hsz, he1, he2⟩ := open_parts p q hq
  rw [← hs]
  have hd : decide ((n : Int) + 4 < 4) = false := by simp; omega
  have hp' : n ≤ 1048576 := by omega
  have hpl : p.length ≤ 4611686018427387904 := by omega
  have hi0 : (0 : Int) ≤ (n : Int) := by omega
  have hi1 : (n : Int) ≤ (n : Int) + 4 := by omega
  have hne := B_ne hg
  clear hs hn hq hg hp
  go_enter Try.func31, Try.ntmps31
  go_wp2
  go_region_held3 (fun _ => True) (first | go_keep | trivial) (first | (go_at_call 27; refine (seal_any p _ hpl).mono ?_; rintro e w1 ⟨rfl, hb1⟩))
  have hbel : Below w.heap.size w w1 := ⟨hb1.os, hb1.tape, hb1.output, hb1.size, hb1.block⟩
  have HB := Lib.hid hbel
  clear hbel hb1
  go_wp2
  go_ret2
  exact ⟨rfl, HB.out⟩
/-- What Open tells of any bytes. -/
theorem open_any (l : List UInt8) (w : World) (h4 : 4 ≤ l.length) (hl : l.length ≤ 1048576) :
    Calls Try.prog 31 #[.string (Om.B l)] w fun e w' => (if Cm.good l then e = .returned (.tuple #[.string (Om.B (l.take (l.length - 4))), .int .i64 0]) else e = .returned (.tuple #[.string (Om.B []), .int .i64 31])) ∧ Below w.heap.size w w' := by
  have hq : (l.drop (l.length - 4)).length = 4 := by rw [List.length_drop]; omega
  have hp : (l.take (l.length - 4)).length ≤ 1048576 := by rw [List.length_take]; omega
  have e : l.take (l.length - 4) ++ l.drop (l.length - 4) = l := List.take_append_drop _ _
  by_cases hg : l.drop (l.length - 4) = Cm.four (l.take (l.length - 4))
  · have h := open_ok _ _ w hq hp hg
    rw [e] at h
    have hgood : Cm.good l = true := by unfold Cm.good; rw [beq_iff_eq]; exact hg
    rw [hgood]
    exact h
  · have h := open_bad _ _ w hq hp hg
    rw [e] at h
    have hgood : Cm.good l = false := by unfold Cm.good; rw [beq_eq_false_iff_ne]; exact hg
    rw [hgood]
    exact h
end Go.Proofs.Ytncbimgbjkdocaa
