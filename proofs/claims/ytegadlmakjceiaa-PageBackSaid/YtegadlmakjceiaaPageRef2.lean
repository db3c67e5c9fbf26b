/- Contract of the document's own Decode. -/
import Derived.Test.YtegadlmakjceiaaPageRef
namespace Go.Proofs.Ytegadlmakjceiaa
open Go.RowKit
set_option linter.unusedVariables false

theorem rpdec_cut (s : List UInt8) (w : World) (h : s.length ≠ 64) : Calls Try.prog 10 #[.string (Om.B s)] w (DecIs s w) := by
  have hne : (((Om.B s).size : Int) != 64) = true := by rw [bne_iff_ne, Om.B_size]; omega
  have hd := Pm.dec_cut s h
  have HD := Lib.hid hd
  clear hd h
  go_enter Try.func10, Try.ntmps10
  go_wp2
  go_ret3
  exact dec_none s w w 21 HD.out (Below.refl _ _)
theorem rpdec_sum (s : List UInt8) (w : World) (h : s.length = 64) (hg : Cm.good s = false) : Calls Try.prog 10 #[.string (Om.B s)] w (DecIs s w) := by
  have hne : (((Om.B s).size : Int) != 64) = false := by rw [bne_eq_false_iff_eq, Om.B_size]; omega
  have hd := Pm.dec_sum s h hg
  have hc := fun w1 => ropen_any s w1 (by omega) (by omega)
  rw [hg] at hc
  have C := Lib.hid hc
  have HD := Lib.hid hd
  clear hd h hg hc
  go_enter Try.func10, Try.ntmps10
  go_wp2_with fail
  refine (C.out _).mono ?_
  rintro e w1 ⟨he, hb⟩
  obtain rfl : e = .returned (.tuple #[.string (Om.B []), .int .i64 31]) := he
  have HB := Lib.hid hb
  clear hb
  go_wp2
  go_ret3
  exact dec_none s w w1 31 HD.out HB.out

theorem extract_mid (l : List UInt8) (i j : Nat) : (Om.B l).extract i j = Om.B ((l.drop i).take (j - i)) := by
  apply ByteArray.ext
  rw [ByteArray.data_extract]
  apply Array.ext'
  rw [Array.toList_extract, List.extract_eq_take_drop]
  rfl
/-- The first so many places. -/
def vcells (b : List UInt8) (k : Nat) : List Value := (List.range k).map fun i => Value.int .i64 (Pm.val b i)
theorem vcells_succ (b : List UInt8) (k : Nat) : vcells b (k + 1) = vcells b k ++ [.int .i64 (Pm.val b k)] := by simp [vcells, List.range_succ]

set_option maxHeartbeats 800000 in
theorem rpdec_good (s : List UInt8) (w : World) (h : s.length = 64) (hg : Cm.good s = true) : Calls Try.prog 10 #[.string (Om.B s)] w (DecIs s w) := by
  obtain ⟨i0, hi, hz0, hz1, hz2⟩ := info_parts info_int
  have hne : (((Om.B s).size : Int) != 64) = false := by rw [bne_eq_false_iff_eq, Om.B_size]; omega
  have hc := fun w1 => ropen_any s w1 (by omega) (by omega)
  have hbl : (s.take 60).length = 60 := by rw [List.length_take]; omega
  have hform := Pm.dec_form s h hg
  have hok := Pm.dec_ok s h hg
  rw [hg, h] at hc
  unfold Pm.okB at hform hok
  obtain ⟨b, hb⟩ : ∃ b, b = s.take 60 := ⟨_, rfl⟩
  have hc' : ∀ w1, Calls Try.prog 22 #[.string (Om.B s)] w1 fun e w' => e = .returned (.tuple #[.string (Om.B b), .int .i64 0]) ∧ Below w1.heap.size w1 w' := fun w1 => by
    rw [hb]
    exact (hc w1).mono fun e w' h => h
  have hvb : Pm.vals (s.take 60) = Pm.vals b := by rw [hb]
  rw [← hb] at hform hok hbl
  have C := Lib.hid hc'
  have HF := Lib.hid hform
  have HK := Lib.hid hok
  have HVB := Lib.hid hvb
  clear hform hok hc hc' h hg hvb hb
  have hbs : (Om.B b).size = 60 := hbl
  have hpg := Pm.pgen_lt b
  have hgn : Pm.pgen b = Om.num (b.take 4) := Pm.pgen_eq b
  have hcut : ∀ k, k < 13 → (Om.B b).extract (4 + 4 * k) (8 + 4 * k) = Om.B ((b.drop (4 + 4 * k)).take 4) := fun k hk => by
    rw [extract_mid, show 8 + 4 * k - (4 + 4 * k) = 4 by omega]
  have HCUT := Lib.hid hcut
  have hx1 : (Om.B b).extract 56 60 = Om.B (b.drop 56) := by
    have := Om.extract_end (Om.B b) 56
    rw [hbs, Om.L_B] at this
    exact this
  have hx2 : (Om.B b).extract 0 4 = Om.B (b.take 4) := by rw [Om.extract_front, Om.L_B]
  obtain ⟨g, hge⟩ : ∃ g, g = Pm.pgen b := ⟨_, rfl⟩
  rw [← hge] at HK hpg hgn
  obtain ⟨q, hq⟩ : ∃ q, q = b.drop 56 := ⟨_, rfl⟩
  have hql : q.length ≤ 4611686018427387904 := by rw [hq, List.length_drop]; omega
  obtain ⟨z, hz⟩ : ∃ z, z = allZero q := ⟨_, rfl⟩
  have Z := Lib.hid (fun w1 => rzero_any q w1 hql)
  have hN : ∀ w1, Calls Try.prog 23 #[.string (Om.B (b.take 4))] w1 fun e w' => e = .returned (.int .u64 (g : Int)) ∧ w1 = w' := fun w1 => by
    rw [hgn]
    exact number_any (b.take 4) w1 (by rw [List.length_take]; omega)
  have hN' : ∀ k, k < 13 → ∀ w1, Calls Try.prog 23 #[.string (Om.B ((b.drop (4 + 4 * k)).take 4))] w1 fun e w' => e = .returned (.int .u64 ((Pm.pat b k : Nat) : Int)) ∧ w1 = w' := fun k hk w1 => by
    rw [Pm.pat_eq b k hk]
    exact number_any _ w1 (by rw [List.length_take]; omega)
  have N1 := Lib.hid hN
  have N2 := Lib.hid hN'
  rw [← hz] at Z
  rw [← hq, ← hz] at HF HK
  rw [← hq] at hx1
  clear hge hgn hq hz hql hbl hcut hN hN'
  go_enter Try.func10, Try.ntmps10
  go_wp2_with fail
  refine (C.out _).mono ?_
  rintro e w1 ⟨rfl, hb1⟩
  have HB1 := Lib.hid hb1
  clear hb1
  go_wp2
  go_loopw [7, 8] (fun v i wr => ∃ k : Nat, k ≤ 13 ∧ i = .int .i64 k ∧ wr.ownsRow w.heap.size 3 1 v k (vcells b k) ∧ Below w.heap.size w wr ∧ Hid (∀ i, i < k → Pm.okC (Pm.val b i) = true)) (fun _ i _ => 13 - (intOf i).toNat)
  case atStart => exact ⟨0, Nat.zero_le _, rfl, World.ownsRow_nil _ _ _ _, HB1.out, Lib.hid (fun i hi => absurd hi (by omega))⟩
  case round =>
    obtain ⟨k, hk, rfl, hown, hbel, hall⟩ := hrel
    have HB := Lib.hid hbel
    have hsz := hbel.size
    by_cases hlt : k < 13
    · have hpl := Pm.pat_lt b k hlt
      have hoc := Pm.ok_pat b k
      have hval : Pm.val b k = (Pm.pat b k : Int) - 1 := rfl
      have hn := N2.out k hlt
      have hcu := HCUT.out k hlt
      obtain ⟨t, ht⟩ : ∃ t, t = (b.drop (4 + 4 * k)).take 4 := ⟨_, rfl⟩
      obtain ⟨lo, hlo⟩ : ∃ lo, lo = 4 + 4 * k := ⟨_, rfl⟩
      obtain ⟨hi', hhi⟩ : ∃ hi', hi' = 8 + 4 * k := ⟨_, rfl⟩
      rw [← ht] at hn hcu
      rw [← hlo, ← hhi] at hcu
      have e1 : (4 : Int) + 4 * (k : Int) = (lo : Int) := by omega
      have e2 : (8 : Int) + 4 * (k : Int) = (hi' : Int) := by omega
      have e3 : (lo : Int) ≤ (hi' : Int) := by omega
      have e4 : (hi' : Int) ≤ 60 := by omega
      have e5 : lo ≤ hi' := by omega
      have e6 : hi' ≤ 60 := by omega
      obtain ⟨x, hx⟩ : ∃ x, x = Pm.pat b k := ⟨_, rfl⟩
      rw [← hx] at hpl hoc hval hn
      have HVAL := Lib.hid hval
      have N3 := Lib.hid hn
      clear hval hn ht hx hbel hlo hhi
      by_cases hle : x ≤ 2147483647
      · rw [decide_eq_true hle] at hoc
        have HOC := Lib.hid hoc
        have d1 : decide (2147483647 < x) = false := by simp; omega
        clear hoc
        go_wp2_with fail
        refine (N3.out _).mono ?_
        rintro e w2 ⟨rfl, rfl⟩
        go_wp2_with (first | (at_builtin; refine wpList_append_own _ rfl _ _ 23 rfl w.heap.size 3 i0 (.int .i64 0) 1 8 Try.underlying23 hi hz0 hz1 hz2 rfl (by decide) _ _ _ rfl (hown.alloc _) ⟨wr.heap.size, 0, none⟩ 1 1 [.int .i64 ((x : Int) - 1)] rfl rfl ?c1 ?c2 ?c3 ?c4 ?c5 ?_))
        case c1 =>
          intro q u hq
          match q, hq with
          | 0, hq => simp at hq; subst hq; simp [Addr.add]
        case c2 => intro u hu; simp at hu; subst hu; rfl
        case c3 => unfold maxLen; omega
        case c4 => omega
        case c5 => simp; omega
        intro v' w3 hown' hgrow _
        have hbel1 : Below w.heap.size w w3 := (HB.out.alloc hsz _).grown hgrow (by simp; omega) (fun q hq => (hown.lt q hq).1)
        rw [← HVAL.out, ← vcells_succ] at hown'
        have HB2 := Lib.hid hbel1
        have HO2 := Lib.hid hown'
        clear hgrow hown hbel1 hown'
        go_wp2
        go_roundw
        case rel => exact ⟨k + 1, by omega, by go_num, HO2.out, HB2.out, Lib.hid (fun i hi => by
          by_cases e : i = k
          · subst e; exact HOC.out
          · exact hall.out i (by omega))⟩
        case measure => simp [intOf]; omega
      · rw [decide_eq_false hle] at hoc
        have hbad := HF.out (by rw [okL_bad b k hlt hoc]; rfl)
        have HBAD := Lib.hid hbad
        have d1 : decide (2147483647 < x) = true := by simp; omega
        clear hoc hbad hown
        go_wp2_with fail
        refine (N3.out _).mono ?_
        rintro e w2 ⟨rfl, rfl⟩
        go_wp2
        go_ret3
        exact dec_none s w _ 32 HBAD.out HB.out
    · obtain rfl : k = 13 := by omega
      have hok := okL_vals b hall.out
      obtain ⟨g1, c1, rfl⟩ := slice_of (n := 12) hown
      have hrow : Row wr wr.heap.size (some ⟨g1, 0, none⟩) 13 (szs (Pm.vals b)) := Row.own hown (fun i hi => by
        unfold szs vcells
        rw [Pm.vals_get b i hi]
        simp [hi])
      have HROW := Lib.hid hrow
      have HOK := Lib.hid hok
      clear hok hrow hown hbel hall
      cases z with
      | false =>
        have hdn := HF.out (by simp)
        have HD := Lib.hid hdn
        clear hdn
        go_wp2_with fail
        refine (Z.out _).mono ?_
        rintro e w2 ⟨rfl, rfl⟩
        go_wp2
        go_ret3
        exact dec_none s w _ 32 HD.out HB.out
      | true =>
        have hdn := HK.out (by rw [HOK.out]; rfl)
        rw [← HVB.out] at hdn
        have HD := Lib.hid hdn
        clear hdn
        go_wp2_with fail
        refine (Z.out _).mono ?_
        rintro e w2 ⟨rfl, rfl⟩
        go_wp2_with fail
        refine (N1.out _).mono ?_
        rintro e w3 ⟨rfl, rfl⟩
        go_wp2
        go_ret3
        exact dec_some s w _ g _ _ HD.out (by rw [HVB.out]; exact HROW.out) HB.out
/-- Decode, of any bytes. -/
theorem rpdec_any (s : List UInt8) (w : World) : Calls Try.prog 10 #[.string (Om.B s)] w (DecIs s w) := by
  by_cases h : s.length = 64
  · cases hg : Cm.good s with
    | false => exact rpdec_sum s w h hg
    | true => exact rpdec_good s w h hg
  · exact rpdec_cut s w h
end Go.Proofs.Ytegadlmakjceiaa
