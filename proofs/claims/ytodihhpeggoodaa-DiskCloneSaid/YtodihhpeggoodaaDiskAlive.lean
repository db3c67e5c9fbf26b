/- The live question of the disk's statements. -/
import Derived.Test.YtodihhpeggoodaaDiskAct
namespace Go.Proofs.Ytodihhpeggoodaa
namespace Dsk
open Go.RowKit
set_option linter.unusedVariables false

def a0 : Dm.St := Dm.fresh 3
def one_ : List UInt8 := Dm.pad [97]
def two_ : List UInt8 := Dm.pad [98]
def a1 : Dm.St := (Dm.write a0 1 one_).1
def a2 : Dm.St := (Dm.flush a1).1
def a3 : Dm.St := Dm.fail a2 1
def a4 : Dm.St := (Dm.write a3 1 (two_ ++ two_)).1
def a5 : Dm.St := Dm.restart a4 [false]
def s_ : List UInt8 := Dm.readS a5 1 2
theorem e_1 : (Dm.write a0 1 one_).2 = 0 := by kernel_rfl
theorem e_2 : (Dm.flush a1).2 = 0 := by kernel_rfl
theorem e_4 : (Dm.write a3 1 (two_ ++ two_)).2 = 41 := by kernel_rfl
theorem n_4 : a4.P.length = 1 := by kernel_rfl
theorem d_4 : a4.dead = true := by kernel_rfl
theorem h_4 : Dm.readE a4 0 1 = 41 := by kernel_rfl
theorem i_5 : Dm.readE a5 1 2 = 0 := by kernel_rfl
theorem l_5 : s_.length = 128 := by kernel_rfl
theorem c_5 : s_[0]? = some 97 := by kernel_rfl
theorem z_5 : s_[64]? = some 0 := by kernel_rfl
theorem S_5 : a5.S.length = 3 := by kernel_rfl
theorem n_0 : a0.P.length = 0 := by kernel_rfl
theorem n_1 : a1.P.length = 1 := by kernel_rfl
theorem n_3 : a3.P.length = 0 := by kernel_rfl
theorem n_5 : a5.P.length = 0 := by kernel_rfl
theorem l_1 : one_.length = 64 := by kernel_rfl
theorem l_2 : two_.length = 64 := by kernel_rfl
theorem load_one (w : World) : Calls Try.prog 9 #[.string ⟨#[97]⟩] w fun e w' => ∃ r, e = .returned (.pointer (some ⟨r.p, 0, none⟩)) ∧ Rk w' r (Dm.load [97]) ∧ (∀ k, r.fp k → w.heap.size ≤ k) ∧ Below w.heap.size w w' := rload_any [97] w (by decide)
theorem load_two (w : World) : Calls Try.prog 9 #[.string ⟨#[98]⟩] w fun e w' => ∃ r, e = .returned (.pointer (some ⟨r.p, 0, none⟩)) ∧ Rk w' r (Dm.load [98]) ∧ (∀ k, r.fp k → w.heap.size ≤ k) ∧ Below w.heap.size w w' := rload_any [98] w (by decide)
theorem str_at {l : List UInt8} {k : Nat} {c : UInt8} (h : l[k]? = some c) : ∃ hk : k < (Om.B l).size, (Om.B l)[k] = c := by
  obtain ⟨hk, he⟩ := List.getElem?_eq_some_iff.1 h
  exact ⟨by rw [Om.B_size]; exact hk, he⟩

set_option maxRecDepth 100000 in
set_option maxHeartbeats 1000000 in
theorem alive_any (w : World) : Calls Try.prog 8 #[] w fun e w' => e = .returned (.bool true) ∧ Below w.heap.size w w' := by
  have C0 := Lib.hid (fun w => new_any 3 w (by decide))
  go_enter Try.func8, Try.ntmps8
  go_wp2_with fail
  refine (C0.out _).mono ?_
  rintro e w1 ⟨o0, rfl, hd0, hf0, hb0⟩
  have D0 : Hid (Dk w1 o0 a0) := hd0
  have F0 := Lib.hid hf0
  have B0 := Lib.hid hb0
  clear hd0 hf0 hb0 C0
  go_wp2_with fail
  refine (load_one _).mono ?_
  rintro e w2 ⟨r1, rfl, hr1, _, hb1⟩
  have R1 := Lib.hid hr1
  have B1 := Lib.hid hb1
  clear hr1 hb1
  have C := Lib.hid (rbytes_any R1.out)
  rw [Dm.load_flat] at C
  go_wp2_with fail
  refine C.out.mono ?_
  rintro e w2' ⟨rfl, rfl⟩
  clear C
  go_wp2_with fail
  refine (load_two _).mono ?_
  rintro e w3 ⟨r2, rfl, hr2, _, hb2⟩
  have R2 := Lib.hid hr2
  have B2 := Lib.hid hb2
  clear hr2 hb2
  have C := Lib.hid (rbytes_any R2.out)
  rw [Dm.load_flat] at C
  go_wp2_with fail
  refine C.out.mono ?_
  rintro e w3' ⟨rfl, rfl⟩
  clear C
  have D1 := Lib.hid ((D0.out.below B1.out).below B2.out)
  have B3 := Lib.hid (((B0.out).trans (B1.out.mono B0.out.size)).trans (B2.out.mono (Nat.le_trans B0.out.size B1.out.size)))
  clear D0 B0 B1 B2 R1 R2
  have C := Lib.hid (write_any D1.out 1 one_ (by decide) (by rw [l_1]; decide) (by rw [n_0]; decide))
  rw [e_1] at C
  go_wp2_with fail
  refine C.out.mono ?_
  rintro e w4 ⟨rfl, o1, hd, hs⟩
  have hp := hs.p
  have D2 : Hid (Dk w4 o1 a1) := hd
  have T2 := Lib.hid hs
  clear hd hs C D1
  have C := Lib.hid (flush_any D2.out (by rw [n_1]; decide))
  rw [e_2, hp] at C
  have P2 := Lib.hid hp
  clear hp
  go_wp2_with fail
  refine C.out.mono ?_
  rintro e w5 ⟨rfl, o2, hd, hs⟩
  have hp := hs.p.trans P2.out
  have D3 : Hid (Dk w5 o2 a2) := hd
  have T3 := Lib.hid (T2.out.trans hs)
  clear hd hs C D2 T2 P2
  have C := Lib.hid (fail_any D3.out 1 (by decide) (by decide))
  rw [hp] at C
  have P3 := Lib.hid hp
  clear hp
  go_wp2_with fail
  refine C.out.mono ?_
  rintro e w6 ⟨rfl, o3, hd, hs⟩
  have hp := hs.p.trans P3.out
  have D4 : Hid (Dk w6 o3 a3) := hd
  have T4 := Lib.hid (T3.out.trans hs)
  clear hd hs C D3 T3 P3
  have C := Lib.hid (write_any D4.out 1 (two_ ++ two_) (by decide) (by rw [List.length_append, l_2]; decide) (by rw [n_3]; decide))
  rw [e_4, hp] at C
  have P4 := Lib.hid hp
  clear hp
  have hov := no_over two_ two_ (by rw [l_2]; decide)
  have happ := Om.B_append two_ two_
  change ¬ 9223372036854775807 < (Om.B (Dm.pad [98])).size + (Om.B (Dm.pad [98])).size at hov
  change Om.B (Dm.pad [98]) ++ Om.B (Dm.pad [98]) = _ at happ
  go_wp2_with fail
  refine C.out.mono ?_
  rintro e w7 ⟨rfl, o4, hd, hs⟩
  have hp := hs.p.trans P4.out
  have D5 : Hid (Dk w7 o4 a4) := hd
  have T5 := Lib.hid (T4.out.trans hs)
  clear hd hs C D4 T4 P4 hov happ
  have C1 := Lib.hid (pending_any D5.out)
  have C2 := Lib.hid (dead_any D5.out)
  have C3 := Lib.hid (read_any D5.out 0 1 (by decide) (by rw [n_4]; decide))
  rw [n_4, hp] at C1
  rw [d_4, hp] at C2
  rw [h_4, hp] at C3
  have P5 := Lib.hid hp
  clear hp
  go_wp2_with fail
  refine C1.out.mono ?_
  rintro e w' ⟨rfl, rfl⟩
  go_wp2_with fail
  refine C2.out.mono ?_
  rintro e w' ⟨rfl, rfl⟩
  go_wp2_with fail
  refine C3.out.mono ?_
  rintro e w8 ⟨rfl, hb⟩
  have D6 := Lib.hid (D5.out.below hb)
  have T6 := Lib.hid (T5.out.trans (Step.of_below hb))
  clear hb C1 C2 C3 D5 T5
  have C := Lib.hid (restart_any (D6.out.below (box_below w8 (.cells #[.bool false] 4))) (by rw [n_4]; decide) [false] (some ⟨w8.heap.size, 0, none⟩) 1 (by decide) (fun _ => ⟨w8.heap.size, 0, rfl, (fun c => Nat.lt_irrefl _ (D6.out.lt _ c)), by simp, fun i hi => by
    obtain rfl : i = 0 := by simpa using hi
    exact box_cell _ _ _ _⟩))
  rw [P5.out] at C
  go_wp2_with fail
  refine C.out.mono ?_
  rintro e w9 ⟨rfl, o5, hd, hs⟩
  have hp := hs.p.trans P5.out
  have D7 : Hid (Dk w9 o5 a5) := hd
  have T7 := Lib.hid (T6.out.trans ((Step.of_below (box_below w8 (.cells #[.bool false] 4))).trans hs))
  clear hd hs C D6 T6 P5
  have C3 := Lib.hid (read_any D7.out 1 2 (by decide) (by rw [n_5]; decide))
  rw [i_5, hp, show Dm.readS a5 1 2 = s_ from rfl] at C3
  go_wp2_with fail
  refine C3.out.mono ?_
  rintro e w10 ⟨rfl, hb⟩
  have D8 := Lib.hid (D7.out.below hb)
  have T8 := Lib.hid (T7.out.trans (Step.of_below hb))
  have C := Lib.hid (sectors_any D8.out)
  rw [S_5, hp] at C
  clear hb C3 D7 T7 hp
  have hls : (Om.B s_).size = 128 := by rw [Om.B_size]; exact l_5
  obtain ⟨k0, q0⟩ := str_at c_5
  obtain ⟨k1, q1⟩ := str_at z_5
  have q0' : ((Om.B s_)[0].toNat : Int) = 97 := by rw [q0]; rfl
  have q1' : (Om.B s_)[64].toNat = 0 := by rw [q1]; rfl
  clear q0 q1
  go_wp2_with fail
  refine C.out.mono ?_
  rintro e w11 ⟨rfl, rfl⟩
  go_wp2
  go_ret
  exact ⟨rfl, B3.out.trans (T8.out.fr.below B3.out.size F0.out)⟩
end Dsk
end Go.Proofs.Ytodihhpeggoodaa
