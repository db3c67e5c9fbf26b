/- All runs, and the first one, are as the document says. -/
import Derived.Test.YtaedgifboepgdaaRunAlive
namespace Go.Proofs.Ytaedgifboepgdaa
namespace Rn
open Go.RowKit Dsk Tb
set_option linter.unusedVariables false
set_option maxRecDepth 100000

set_option maxHeartbeats 2000000 in
theorem tell_alive {m : Int} {l : List E} {n c : Nat} (h : 100 < n) (a : Option Addr) (w : World) :
    Calls Try.prog 3 #[.int .i64 m, .slice a n c] w fun e w' => e = .returned (.bool true) ∧ Below w.heap.size w w' := by
  have AL := Lib.hid (alive_any w)
  have t1 : decide ((n : Int) > 100) = true := by simp; omega
  have t2 : decide (n > 100) = true := by simp; omega
  clear h
  go_enter Try.func3, Try.ntmps3
  go_wp2_with fail
  refine AL.out.mono ?_
  rintro e w1 ⟨rfl, hb⟩
  go_wp2_with fail
  go_ret
  exact ⟨rfl, hb⟩
set_option maxHeartbeats 2000000 in
theorem tell_yes {m : Int} {l : List E} {n c : Nat} (hin : In m l n c) (h : n ≤ 100) (a : Option Addr) (w : World) (hrow : REnts w a l) :
    Calls Try.prog 3 #[.int .i64 m, .slice a n c] w fun e w' => e = .returned (.bool true) ∧ Below w.heap.size w w' := by
  have HX := Lib.hid hrow
  have hll : (res m l).length ≤ 100 := by have := res_len m l; have := hin.len; omega
  have hle : ∀ r ∈ res m l, r.length ≤ 100 := fun r hr => by have := res_each hr; have := hin.len; omega
  have hlh : (hd m l).length ≤ 100 := by have := hd_len m l; have := hin.len; omega
  have K1 : Hid (∀ W, Below w.heap.size w W → Calls Try.prog 7 #[.int .i64 m, .slice a n c] W fun e w' => ∃ v vs, e = .returned (.tuple #[v, .int .i64 (err m l)]) ∧ Rows w' W.heap.size v vs (res m l) ∧ Below W.heap.size W w') := fun W hW => of_any hin a W (hrow.below hW)
  have K2 : Hid (∀ W, Below w.heap.size w W → Calls Try.prog 8 #[.int .i64 m, .slice a n c] W fun e w' => ∃ v vs, e = .returned (.tuple #[v, .int .i64 (err m l)]) ∧ Rows w' W.heap.size v vs (res m l) ∧ Below W.heap.size W w') := fun W hW => rof_any hin (by omega) a W (hrow.below hW)
  have K3 : Hid (∀ W, Below w.heap.size w W → Calls Try.prog 9 #[.int .i64 m, .slice a n c] W fun e w' => ∃ p k d, e = .returned (.tuple #[.slice p k d, .int .i64 (err m l)]) ∧ k = (hd m l).length ∧ REnts w' p (hd m l) ∧ Below W.heap.size W w') := fun W hW => first_any hin a W (hrow.below hW)
  have K4 : Hid (∀ W, Below w.heap.size w W → Calls Try.prog 10 #[.int .i64 m, .slice a n c] W fun e w' => ∃ p k d, e = .returned (.tuple #[.slice p k d, .int .i64 (err m l)]) ∧ k = (hd m l).length ∧ REnts w' p (hd m l) ∧ Below W.heap.size W w') := fun W hW => rfirst_any hin (by omega) a W (hrow.below hW)
  obtain ⟨L, hL⟩ : ∃ L, L = res m l := ⟨_, rfl⟩
  obtain ⟨D, hD⟩ : ∃ D, D = hd m l := ⟨_, rfl⟩
  obtain ⟨x, hx⟩ : ∃ x, x = err m l := ⟨_, rfl⟩
  obtain ⟨kd, hkd⟩ : ∃ kd, kd = D.length := ⟨_, rfl⟩
  rw [← hL, ← hx] at K1 K2
  rw [← hD, ← hx, ← hkd] at K3 K4
  rw [← hL] at hll hle
  rw [← hD] at hlh
  have SA : Hid (∀ (W : World) (p q : Option Addr) (d e : Nat), REnts W p D → REnts W q D → Calls Try.prog 12 #[.slice p kd d, .slice q kd e] W fun e w' => e = .returned (.bool true) ∧ Below W.heap.size W w') := fun W p q d e h1 h2 => by
    rw [hkd]; exact esame_rows h1 h2 (by omega)
  have SM : Hid (∀ (W : World) (b1 b2 : Nat) (v u : Value) (vs us : List Value), Rows W b1 v vs L → Rows W b2 u us L → Calls Try.prog 11 #[v, u] W fun e w' => e = .returned (.bool true) ∧ Below W.heap.size W w') := fun W b1 b2 v u vs us h1 h2 => same_any h1 h2 (by omega) fun r hr => by have := hle r hr; omega
  have AL := Lib.hid (fun W : World => alive_any W)
  have t1 : decide ((n : Int) > 100) = false := by simp; omega
  have t2 : decide (n > 100) = false := by simp; omega
  have t3 : (x == x) = true := by simp
  clear hin h hrow hL hD hx hkd hll hle hlh HX
  go_enter Try.func3, Try.ntmps3
  go_wp2_with (first
    | (go_at_call 7; refine (K1.out _ (Below.refl _ _)).mono ?_; rintro e w1 ⟨v1, vs1, rfl, h1, hb1⟩; have B1 := Lib.hid hb1; have R1 := Lib.hid h1; obtain ⟨va1, vc1, hv1⟩ := h1.value; subst hv1; clear h1 hb1)
    | (go_at_call 8; refine (K2.out _ B1.out).mono ?_; rintro e w2 ⟨v2, vs2, rfl, h2, hb2⟩; have B2 := Lib.hid (B1.out.trans (hb2.mono B1.out.size)); have R2 := Lib.hid h2; have R1b := Lib.hid (R1.out.next hb2); obtain ⟨va2, vc2, hv2⟩ := h2.value; subst hv2; clear h2 hb2)
    | (go_at_call 9; refine (K3.out _ B2.out).mono ?_; rintro e w3 ⟨p3, k3, d3, rfl, hk3, h3, hb3⟩; subst hk3; have B3 := Lib.hid (B2.out.trans (hb3.mono B2.out.size)); have R1c := Lib.hid (R1b.out.next hb3); have R2c := Lib.hid (R2.out.next hb3); have F3 := Lib.hid h3; clear h3 hb3)
    | (go_at_call 10; refine (K4.out _ B3.out).mono ?_; rintro e w4 ⟨p4, k4, d4, rfl, hk4, h4, hb4⟩; subst hk4; have B4 := Lib.hid (B3.out.trans (hb4.mono B3.out.size)); have R1d := Lib.hid (R1c.out.next hb4); have R2d := Lib.hid (R2c.out.next hb4); have F3d := Lib.hid (F3.out.below hb4); have F4d := Lib.hid h4; clear h4 hb4)
    | (go_at_call 11; refine (SM.out _ _ _ _ _ _ _ R1d.out R2d.out).mono ?_; rintro e w5 ⟨rfl, hb5⟩; have B5 := Lib.hid (B4.out.trans (hb5.mono B4.out.size)); have F3e := Lib.hid (F3d.out.below hb5); have F4e := Lib.hid (F4d.out.below hb5); clear hb5)
    | (go_at_call 6; refine (AL.out _).mono ?_; rintro e w6 ⟨rfl, hb6⟩; have B6 := Lib.hid (B5.out.trans (hb6.mono B5.out.size)); have F3f := Lib.hid (F3e.out.below hb6); have F4f := Lib.hid (F4e.out.below hb6); clear hb6)
    | (go_at_call 12; refine (SA.out _ _ _ _ _ F3f.out F4f.out).mono ?_; rintro e w7 ⟨rfl, hb7⟩; have B7 := Lib.hid (B6.out.trans (hb7.mono B6.out.size)); clear hb7))
  go_ret
  exact ⟨rfl, B7.out⟩
end Rn
end Go.Proofs.Ytaedgifboepgdaa
