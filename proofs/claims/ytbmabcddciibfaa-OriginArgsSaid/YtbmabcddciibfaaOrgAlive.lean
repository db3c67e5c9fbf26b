/- The live question of the origin's statements. -/
import Derived.Test.YtbmabcddciibfaaOrgOf
import Derived.Test.YtbmabcddciibfaaDiskNew
import Derived.Test.YtbmabcddciibfaaDiskRLoad
import Derived.Test.YtbmabcddciibfaaDiskRRead
namespace Go.Proofs.Ytbmabcddciibfaa
namespace Og
open Go.RowKit
set_option maxRecDepth 100000
set_option linter.unusedVariables false
def one_ : List UInt8 := Dm.pad [97]
theorem l_1 : one_.length = 64 := by kernel_rfl
def s0 : Dm.St := Dm.fresh 30
def s1 : Dm.St := pS 5 2 s0 2 (one_ ++ one_)
theorem e_put : pE 5 2 s0 2 (one_ ++ one_) = 0 := by kernel_rfl
theorem e_chunk : cE 5 2 s1 2 = 0 := by kernel_rfl
def c_ : List UInt8 := cS 5 2 s1 2
theorem c_len : c_.length = 128 := by kernel_rfl
theorem c_64 : c_[64]? = some 0 := by kernel_rfl
theorem e_r4 : rE 5 s1 4 1 = 0 := by kernel_rfl
theorem s_r4 : rS 5 s1 4 1 = one_ := by kernel_rfl
theorem e_r5 : rE 5 s1 5 1 = 2 := by kernel_rfl
theorem e_d : Dm.readE s1 21 2 = 0 := by kernel_rfl
def d_ : List UInt8 := Dm.readS s1 21 2
theorem d_len : d_.length = 128 := by kernel_rfl
theorem d_0 : d_[0]? = some 97 := by kernel_rfl
theorem d_64 : d_[64]? = some 0 := by kernel_rfl
theorem p_0 : s0.P.length = 0 := by kernel_rfl
theorem p_1 : s1.P.length = 1 := by kernel_rfl
theorem S_0 : s0.S.length = 30 := by kernel_rfl
theorem load_one (w : World) : Calls Try.prog 29 #[.string ⟨#[97]⟩] w fun e w' => ∃ r, e = .returned (.pointer (some ⟨r.p, 0, none⟩)) ∧ Dsk.Rk w' r (Dm.load [97]) ∧ (∀ k, r.fp k → w.heap.size ≤ k) ∧ Below w.heap.size w w' := Dsk.rload_any [97] w (by decide)
theorem str_at {l : List UInt8} {k : Nat} {c : UInt8} (h : l[k]? = some c) : ∃ hk : k < (Om.B l).size, (Om.B l)[k] = c := by
  obtain ⟨hk, he⟩ := List.getElem?_eq_some_iff.1 h
  exact ⟨by rw [Om.B_size]; exact hk, he⟩
set_option maxHeartbeats 2000000 in
theorem oalive_any (w : World) : Calls Try.prog 14 #[] w fun e w' => e = .returned (.bool true) ∧ Below w.heap.size w w' := by
  have C0 := Lib.hid (fun w => Dsk.new_any 30 w (by decide))
  have OF := Lib.hid (fun w => of_ok 30 5 2 w (by decide))
  go_enter Try.func14, Try.ntmps14
  go_wp2_with fail
  refine (C0.out _).mono ?_
  rintro e w1 ⟨d0, rfl, hd0, hf0, hb0⟩
  have D0 : Hid (Dsk.Dk w1 d0 s0 ∧ ∀ k, d0.fp k → w.heap.size ≤ k) := Lib.hid ⟨hd0, hf0⟩
  have B1 := Lib.hid hb0
  clear hd0 hf0 hb0 C0
  go_wp2_with fail
  refine (OF.out _).mono ?_
  rintro e w2 ⟨rfl, hb⟩
  obtain ⟨W3, hW3⟩ : ∃ W3, w2.alloc (.cells #[.int .i64 30, .int .i64 5, .int .i64 2] 30) = W3 := ⟨_, rfl⟩
  obtain ⟨hb3, hc3⟩ := lay_made w2 _ _ _ W3 hW3
  have B3 := Lib.hid (keepB (keepB hb3 hb) B1.out)
  have D3 := Lib.hid (D0.out.1.below (keepB hb3 hb))
  obtain ⟨a0, a1, a2⟩ := hc3 W3 (Below.refl _ _)
  clear hb hb3 hc3
  have MO : Hid (Calls Try.prog 7 #[.pointer (some ⟨d0.p, 0, none⟩), .agg #[.int .i64 30, .int .i64 5, .int .i64 2]] W3 (MadeO 5 2 d0 s0 W3)) := Lib.hid (oof_ok D3.out (a := 30) (n := 5) (g := 2) (by decide) S_0 (by decide))
  unfold MadeO at MO
  go_wp2_with fail
  clear hW3
  refine MO.out.mono ?_
  rintro e w4 ⟨o, rfl, hg, hod, hq, hb⟩
  have G4 : Hid (Gk w4 o 5 2 s0 ∧ (∀ k, o.fp k → w.heap.size ≤ k) ∧ o.d.p = d0.p) := Lib.hid ⟨hg, fun k hk => by
    rcases hk with rfl | hk
    · exact Nat.le_trans B3.out.size hq
    · rw [hod] at hk; exact D0.out.2 k hk, by rw [hod]⟩
  have B4 := Lib.hid (keepB hb B3.out)
  clear hg hod hq hb MO D0 D3 a0 a1 a2
  go_wp2_with fail
  refine (load_one _).mono ?_
  rintro e w5 ⟨r1, rfl, hr1, _, hb⟩
  have C := Lib.hid (Dsk.rbytes_any hr1)
  rw [Dm.load_flat] at C
  have B5 := Lib.hid (keepB hb B4.out)
  have G5 : Hid (Gk w5 o 5 2 s0) := Lib.hid (G4.out.1.below hb)
  clear hr1 hb
  go_wp2_with fail
  refine C.out.mono ?_
  rintro e w5' ⟨rfl, rfl⟩
  clear C
  have hov := no_over one_ one_ (by rw [l_1]; decide)
  have happ := Om.B_append one_ one_
  change ¬ 9223372036854775807 < (Om.B (Dm.pad [97])).size + (Om.B (Dm.pad [97])).size at hov
  change Om.B (Dm.pad [97]) ++ Om.B (Dm.pad [97]) = _ at happ
  have PU : Hid (Calls Try.prog 12 #[.pointer (some ⟨o.q, 0, none⟩), .int .i64 2, .string (Om.B (one_ ++ one_))] w5 fun e w' => e = .returned (.int .i64 0) ∧ Went o 5 2 s1 w5 w') := Lib.hid (by
    have := oput_yes G5.out 2 (by decide) (one_ ++ one_) (by rw [List.length_append, l_1]) (by rw [p_0]; decide)
    rw [e_put] at this
    exact this)
  go_wp2_with fail
  refine PU.out.mono ?_
  rintro e w6 ⟨rfl, o6, hg6, hs6⟩
  have hq6 := hs6.q
  have hp6 := hs6.d.p
  have G6 : Hid (Gk w6 o6 5 2 s1) := hg6
  have B6 : Hid (Below w.heap.size w w6) := Lib.hid (B5.out.trans (hs6.fr.below B5.out.size fun k hk => G4.out.2.1 k hk))
  have CH : Hid (Calls Try.prog 10 #[.pointer (some ⟨o.q, 0, none⟩), .int .i64 2] w6 fun e w' => e = .returned (.tuple #[.string (Om.B c_), .int .i64 0]) ∧ Below w6.heap.size w6 w') := Lib.hid (by
    have := ochunk_yes hg6 2 (by decide) (by rw [p_1]; decide)
    rw [e_chunk, hq6] at this
    exact this)
  have R4 : Hid (∀ w7, Below w6.heap.size w6 w7 → Calls Try.prog 9 #[.pointer (some ⟨o.q, 0, none⟩), .int .i64 4, .int .i64 1] w7 fun e w' => e = .returned (.tuple #[.string (Om.B one_), .int .i64 0]) ∧ Below w7.heap.size w7 w') := Lib.hid fun w7 hb => by
    have := oread_any (hg6.below hb) 4 1 (by decide) (by rw [p_1]; decide)
    rw [e_r4, s_r4, hq6] at this
    exact this
  have R5 : Hid (∀ w7, Below w6.heap.size w6 w7 → Calls Try.prog 9 #[.pointer (some ⟨o.q, 0, none⟩), .int .i64 5, .int .i64 1] w7 fun e w' => e = .returned (.tuple #[.string (Om.B (rS 5 s1 5 1)), .int .i64 2]) ∧ Below w7.heap.size w7 w') := Lib.hid fun w7 hb => by
    have := oread_any (hg6.below hb) 5 1 (by decide) (by rw [p_1]; decide)
    rw [e_r5, hq6] at this
    exact this
  have RD : Hid (∀ w7, Below w6.heap.size w6 w7 → Calls Try.prog 24 #[.pointer (some ⟨d0.p, 0, none⟩), .int .i64 21, .int .i64 2] w7 fun e w' => e = .returned (.tuple #[.string (Om.B d_), .int .i64 0]) ∧ Below w7.heap.size w7 w') := Lib.hid fun w7 hb => by
    have := Dsk.read_any (hg6.below hb).dk 21 2 (by decide) (by rw [p_1]; decide)
    rw [e_d, hp6, G4.out.2.2] at this
    exact this
  clear hg6 hs6 hq6 hp6 PU G5 G6 B5 B4 G4 hov happ
  go_wp2_with fail
  refine CH.out.mono ?_
  rintro e w7 ⟨rfl, hb7⟩
  have K7 := Lib.hid hb7
  clear hb7 CH
  go_wp2_with fail
  refine (R4.out _ K7.out).mono ?_
  rintro e w8 ⟨rfl, hb⟩
  have K8 := Lib.hid (keepB hb K7.out)
  clear hb R4
  go_wp2_with fail
  refine (R5.out _ K8.out).mono ?_
  rintro e w9 ⟨rfl, hb⟩
  have K9 := Lib.hid (keepB hb K8.out)
  clear hb R5
  obtain ⟨J, hJ⟩ : ∃ J, J = Om.B (rS 5 s1 5 1) := ⟨_, rfl⟩
  rw [← hJ]
  clear hJ
  have lc : (Om.B c_).size = 128 := by rw [Om.B_size]; exact c_len
  have ld : (Om.B d_).size = 128 := by rw [Om.B_size]; exact d_len
  obtain ⟨k0, q0⟩ := str_at c_64
  obtain ⟨k1, q1⟩ := str_at d_0
  obtain ⟨k2, q2⟩ := str_at d_64
  have q0' : (Om.B c_)[64].toNat = 0 := congrArg UInt8.toNat q0
  have q1' : ((Om.B d_)[0].toNat : Int) = 97 := congrArg (fun x : UInt8 => (x.toNat : Int)) q1
  have q2' : (Om.B d_)[64].toNat = 0 := congrArg UInt8.toNat q2
  have x1 : Om.B (Dm.pad [97]) = Om.B one_ := rfl
  clear q0 q1 q2
  rw [x1]
  go_wp2_with fail
  refine (RD.out _ K9.out).mono ?_
  rintro e w10 ⟨rfl, hb⟩
  have FB := Lib.hid (keepB (keepB hb K9.out) B6.out)
  clear hb RD
  go_wp2_with fail
  go_ret
  exact ⟨rfl, FB.out⟩
end Og
end Go.Proofs.Ytbmabcddciibfaa