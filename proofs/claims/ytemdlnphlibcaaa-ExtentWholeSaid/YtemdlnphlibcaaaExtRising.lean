/- Contract of extent's rising: a copy in order, or none. -/
import Derived.Test.YtemdlnphlibcaaaExtRise
namespace Go.Proofs.Ytemdlnphlibcaaa
namespace Xm
open Go.RowKit
set_option maxRecDepth 100000
set_option linter.unusedVariables false

/-- What numbers may be of an int. -/
def Small (u : List (Int × Int)) : Prop := ∀ x ∈ u, x.1 ≤ 9223372036854775807
theorem rising_no0 (s l : Int) (n c : Nat) (p : Option Addr) (w : World) (hr : regB s l = false) : Calls Try.prog 16 #[.agg #[.int .i64 s, .int .i64 l], .slice p n c] w fun e w' => e = .returned (.tuple #[.slice none 0 0, .bool false]) ∧ Below w.heap.size w w' := by
  have HB := Lib.hid (below_new w (.cells #[.int .i64 s, .int .i64 l] 23))
  have hx := Bx.new w s l
  have c0 := hx.c0
  have c1 := hx.c1
  have R := Lib.hid (fun w1 => region_any s l w1)
  rw [hr] at R
  clear hx hr
  go_enter Try.func16, Try.ntmps16
  go_wp2_with fail
  refine (R.out _).mono ?_
  rintro e w1 ⟨rfl, hb⟩
  have HB1 := Lib.hid (HB.out.trans (hb.mono HB.out.size))
  clear hb c0 c1
  go_wp2_with fail
  go_ret2
  exact ⟨rfl, HB1.out⟩
/-- All extents are gone through: none is out of the region, or one is. -/
structure Went (w wr : World) (s l : Int) (p : Option Addr) (u : List (Int × Int)) (k : Nat) : Prop where
  bel : Below w.heap.size w wr
  box : Bx wr w.heap.size s l
  row : Exts wr p u
  ok : ∀ i (h : i < u.length), i < k → inB s l u[i] = true
theorem Went.next {w wr w' : World} {s l : Int} {p : Option Addr} {u : List (Int × Int)} {k : Nat} (h : Went w wr s l p u k) (hb : Below wr.heap.size wr w') : Went w w' s l p u k :=
  ⟨h.bel.trans (hb.mono h.bel.size), h.box.next hb, h.row.next hb, h.ok⟩
theorem Went.draw {w wr : World} {s l : Int} {p : Option Addr} {u : List (Int × Int)} {k : Nat} (h : Went w wr s l p u k) : Went w wr.drew s l p u k := h.next (below_draw (Below.refl _ _))
theorem Went.more {w wr : World} {s l : Int} {p : Option Addr} {u : List (Int × Int)} {k : Nat} (h : Went w wr s l p u k) (hk : k < u.length) (hi : inB s l u[k] = true) : Went w wr s l p u (k + 1) :=
  ⟨h.bel, h.box, h.row, fun i h1 h2 => by
    by_cases e : i = k
    · subst e; exact hi
    · exact h.ok i h1 (by omega)⟩
/-- Neighbours in order are gone through: each stands behind the last one. -/
structure Srt (w wr : World) (q : Option Addr) (z : List (Int × Int)) (k : Nat) : Prop where
  bel : Below w.heap.size w wr
  row : Exts wr q z
  ok : ∀ i (h : i + 1 < z.length), i + 1 < k → (z[i]'(by omega)).1 + (z[i]'(by omega)).2 ≤ z[i + 1].1
theorem Srt.next {w wr w' : World} {q : Option Addr} {z : List (Int × Int)} {k : Nat} (h : Srt w wr q z k) (hb : Below wr.heap.size wr w') : Srt w w' q z k :=
  ⟨h.bel.trans (hb.mono h.bel.size), h.row.next hb, h.ok⟩
theorem Srt.more {w wr : World} {q : Option Addr} {z : List (Int × Int)} {k j : Nat} (h : Srt w wr q z k) (e : k = j + 1) (hk : j + 1 < z.length) (hi : (z[j]'(by omega)).1 + (z[j]'(by omega)).2 ≤ z[j + 1].1) : Srt w wr q z (k + 1) :=
  ⟨h.bel, h.row, fun i h1 h2 => by
    by_cases e : i = j
    · subst e; exact hi
    · exact h.ok i h1 (by omega)⟩
theorem not_ok {s l : Int} {u : List (Int × Int)} {k : Nat} (h : k < u.length) (hi : inB s l u[k] = false) : okB s l u = false := by
  unfold okB
  refine decide_eq_false fun ⟨_, c, _⟩ => ?_
  rw [c _ (List.getElem_mem h)] at hi; cases hi
theorem not_rise {s l : Int} {u z : List (Int × Int)} {j : Nat} (hp : List.Perm u z) (hsr : ∀ i j (hj : j < z.length) (hij : i < j), (z[i]'(by omega)).1 ≤ z[j].1) (h : j + 1 < z.length) (hi : ¬ (z[j]'(by omega)).1 + (z[j]'(by omega)).2 ≤ z[j + 1].1) : okB s l u = false := by
  unfold okB
  refine decide_eq_false fun c => ?_
  have c' := c.perm hp
  exact hi (apart_next (fun x hx => (in_iff.1 (c'.2.1 x hx)).1) hsr c'.2.2 j h)
theorem is_ok {s l : Int} {u z : List (Int × Int)} (hr : regB s l = true) (hp : List.Perm u z) (hi : ∀ i (h : i < u.length), inB s l u[i] = true) (hz : ∀ i (h : i + 1 < z.length), (z[i]'(by omega)).1 + (z[i]'(by omega)).2 ≤ z[i + 1].1) : okB s l u = true ∧ Rise z := by
  have hu : ∀ x ∈ u, inB s l x = true := fun x hx => by
    obtain ⟨i, h, e⟩ := List.getElem_of_mem hx
    rw [← e]; exact hi i h
  have r : Rise z := rise_next z (fun x hx => (in_iff.1 (hu x (hp.mem_iff.2 hx))).1) hz
  exact ⟨ok_iff.2 (Ok.perm ⟨hr, fun x hx => hu x (hp.mem_iff.2 hx), rise_apart r⟩ hp.symm), r⟩

set_option maxHeartbeats 2000000 in
theorem rising_any (s l : Int) (u : List (Int × Int)) (n : Nat) (hn : n = u.length) (p : Option Addr) (c : Nat) (w : World) (hu : Exts w p u) (hsm : Small u) (hm : n ≤ maxLen) (hby : n * 16 ≤ 140737488355328) :
    Calls Try.prog 16 #[.agg #[.int .i64 s, .int .i64 l], .slice p n c] w fun e w' => Below w.heap.size w w' ∧
      ((okB s l u = false ∧ e = .returned (.tuple #[.slice none 0 0, .bool false])) ∨ (okB s l u = true ∧ ∃ q d z, e = .returned (.tuple #[.slice q n d, .bool true]) ∧ List.Perm u z ∧ Rise z ∧ Exts w' q z)) := by
  cases hr : regB s l with
  | false => exact (rising_no0 s l n c p w hr).mono fun e w' ⟨h1, h2⟩ => ⟨h2, .inl ⟨decide_eq_false fun c => (by rw [c.1] at hr; cases hr), h1⟩⟩
  | true =>
    have HB := Lib.hid (below_new w (.cells #[.int .i64 s, .int .i64 l] 23))
    have hx := Bx.new w s l
    have HX := Lib.hid hx
    have c0 := hx.c0
    have c1 := hx.c1
    have R := Lib.hid (fun w1 => region_any s l w1)
    rw [hr] at R
    have IN := Lib.hid (fun a b w1 ha => within_any a b s l w1 ha hr)
    have HU := Lib.hid (hu.next (below_new w (.cells #[.int .i64 s, .int .i64 l] 23)))
    have HN := Lib.hid hn
    have HS := Lib.hid hsm
    have HM := Lib.hid hm
    have HY := Lib.hid hby
    have HR := Lib.hid hr
    have hn63 : n ≤ 9223372036854775807 := by unfold maxLen at hm; omega
    clear hx hr hu hn hsm hm hby
    go_enter Try.func16, Try.ntmps16
    go_wp2_with fail
    refine (R.out _).mono ?_
    rintro e w1 ⟨rfl, hb⟩
    have HW : Hid (Went w w1 s l p u 0) := ⟨HB.out.trans (hb.mono HB.out.size), HX.out.next hb, HU.out.next hb, fun i _ h => absurd h (by omega)⟩
    clear hb c0 c1 HB HX HU
    go_wp2_with fail
    go_loopw [15] (fun i wr => ∃ k : Nat, k ≤ n ∧ i = .int .i64 k ∧ Hid (Went w wr s l p u k)) (fun i _ => n - (intOf i).toNat)
    case atStart => exact ⟨0, Nat.zero_le _, rfl, HW⟩
    case round =>
      obtain ⟨k, hk, rfl, hw⟩ := hrel
      by_cases hlt : k < n
      · have hkl : k < u.length := by rw [← HN.out]; exact hlt
        have hne : u ≠ [] := by intro e; rw [e] at hkl; simp at hkl
        obtain ⟨b, off, rfl, hbl, hc⟩ := hw.out.row hne
        obtain ⟨r0, r1⟩ := hc k hkl
        obtain ⟨⟨xa, xb⟩, hx⟩ : ∃ x, x = u[k] := ⟨_, rfl⟩
        have hxs : xa ≤ 9223372036854775807 := by have := HS.out _ (List.getElem_mem hkl); rw [← hx] at this; exact this
        rw [← hx] at r0 r1
        dsimp only at r0 r1
        have HX : Hid (∀ h : k < u.length, u[k] = (xa, xb)) := fun _ => hx.symm
        have HK := Lib.hid hkl
        have C := Lib.hid (fun w1 => IN.out xa xb w1 hxs)
        have c0 := hw.out.box.c0
        have c1 := hw.out.box.c1
        have hd : decide ((k : Int) < (n : Int)) = true := by simp; omega
        have hd2 : decide (k < n) = true := by simp; omega
        have hlb := hw.out.box.lt
        have g0 : (wr.alloc (.cells #[.int .i64 xa, .int .i64 xb] 23)).cell? ⟨w.heap.size, 0, none⟩ = some (.int .i64 s) := ((below_new wr _).cell (p := ⟨w.heap.size, 0, none⟩) hlb).trans c0
        have g1 : (wr.alloc (.cells #[.int .i64 xa, .int .i64 xb] 23)).cell? ⟨w.heap.size, 1, none⟩ = some (.int .i64 l) := ((below_new wr _).cell (p := ⟨w.heap.size, 1, none⟩) hlb).trans c1
        clear hx hkl hne hc hbl hxs hlb c0 c1
        cases hin : inB s l (xa, xb) with
        | true =>
          rw [hin] at C
          go_wp2_with fail
          refine (C.out _).mono ?_
          rintro e w2 ⟨rfl, hb2⟩
          have HW2 : Hid (Went w w2 s l (some ⟨b, off, none⟩) u (k + 1)) := ((hw.out.next (below_new wr _)).next hb2).more HK.out (by rw [HX.out]; exact hin)
          clear hb2 g0 g1 hin r0 r1
          go_wp2_with fail
          go_roundw
          case rel => exact ⟨k + 1, by omega, by go_num, HW2⟩
          case measure => simp [intOf]; omega
        | false =>
          rw [hin] at C
          go_wp2_with fail
          refine (C.out _).mono ?_
          rintro e w2 ⟨rfl, hb2⟩
          have HB2 := Lib.hid ((hw.out.next (below_new wr _)).next hb2).bel
          have HO := Lib.hid (not_ok HK.out (by rw [HX.out]; exact hin))
          clear hb2 g0 g1 hin r0 r1
          go_wp2_with fail
          go_ret2
          exact ⟨HB2.out, .inl ⟨HO.out, rfl⟩⟩
      · have hd : decide ((k : Int) < (n : Int)) = false := by simp; omega
        have hd2 : decide (k < n) = false := by simp; omega
        have hkn : k = n := by omega
        have HA : Hid (∀ i (h : i < u.length), inB s l u[i] = true) := fun i h => hw.out.ok i h (by rw [hkn, HN.out]; exact h)
        have CL := Lib.hid (clone_any u n HN.out p c wr hw.out.row HM.out HY.out)
        clear hkn hlt hk
        go_wp2_with fail
        refine CL.out.mono ?_
        rintro e w2 ⟨v, rfl, hown, hb⟩
        have SO := Lib.hid (sort_any u n HN.out wr.heap.size v w2 hown hb.size (by have := HM.out; unfold maxLen at this; have := HY.out; omega))
        have HB2 := Lib.hid (hw.out.bel.trans (hb.mono hw.out.bel.size))
        clear hown hb CL
        go_wp2_with fail
        refine SO.out.mono ?_
        rintro e w3 ⟨rfl, q, d, z, rfl, hperm, hsrt, hrow, hb⟩
        have HZ : Hid (Srt w w3 q z 1) := ⟨HB2.out.trans (hb.mono hw.out.bel.size), hrow, fun i _ h => absurd h (by omega)⟩
        have HP := Lib.hid hperm
        have HT := Lib.hid hsrt
        have HL : Hid (n = z.length) := by rw [HN.out]; exact hperm.length_eq
        clear hperm hsrt hrow hb SO HB2 hd hd2
        go_wp2_with fail
        go_loopw [9] (fun i wv => ∃ j : Nat, j ≤ n ∧ i = .int .i64 ((j + 1 : Nat) : Int) ∧ Hid (Srt w wv q z (j + 1))) (fun i _ => n + 1 - (intOf i).toNat)
        case atStart => exact ⟨0, Nat.zero_le _, rfl, HZ⟩
        case round =>
          obtain ⟨j, hj, rfl, hv⟩ := hrel
          obtain ⟨k, hk⟩ : ∃ k, k = j + 1 := ⟨_, rfl⟩
          rw [← hk] at hv ⊢
          by_cases hlt : k < n
          · have hkl : j + 1 < z.length := by rw [← HL.out]; omega
            have hne : z ≠ [] := by intro e; rw [e] at hkl; simp at hkl
            obtain ⟨b, off, rfl, hbl, hc⟩ := hv.out.row hne
            have r0 := (hc (j + 1) hkl).1
            obtain ⟨q0, q1⟩ := hc j (by omega)
            obtain ⟨⟨xa, xb⟩, hx⟩ : ∃ x, x = z[j + 1] := ⟨_, rfl⟩
            obtain ⟨⟨ya, yb⟩, hy⟩ : ∃ x, x = z[j]'(by omega) := ⟨_, rfl⟩
            have hin := HA.out
            have hyi : inB s l (ya, yb) = true := by
              obtain ⟨i, h, e⟩ := List.getElem_of_mem (HP.out.mem_iff.2 (List.getElem_mem (l := z) (n := j) (by omega)))
              rw [hy, ← e]; exact hin i h
            obtain ⟨y1, y2, y3⟩ := in_iff.1 hyi
            dsimp only at y1 y2 y3
            obtain ⟨s1, s2, s3, s4⟩ := reg_iff.1 HR.out
            have C := Lib.hid (fun w1 => end_any ya yb w1 (by omega) (by omega))
            rw [← hx] at r0
            rw [← hy] at q0 q1
            rw [← hk] at r0
            dsimp only at r0 q0 q1
            have HX : Hid (∀ h : j + 1 < z.length, z[j + 1] = (xa, xb)) := fun _ => hx.symm
            have HY2 : Hid (∀ h : j < z.length, z[j] = (ya, yb)) := fun _ => hy.symm
            have HK := Lib.hid hkl
            have HKJ := Lib.hid hk
            have hd : decide ((k : Int) < (n : Int)) = true := by simp; omega
            have hd2 : decide (k < n) = true := by simp; omega
            have hd3 : decide ((j : Int) < (n : Int)) = true := by simp; omega
            have hd4 : decide (j < n) = true := by simp; omega
            have e1 : IntKind.i64.wrap ((k : Int) - 1) = (k : Int) - 1 := IntWalk.i64_in _ (by omega)
            have e2 : (0 : Int) ≤ (k : Int) - 1 := by omega
            have e3 : (k : Int) - 1 < (n : Int) := by omega
            have e4 : ((k : Int) - 1).toNat = j := by omega
            have e5 : (1 : Int) ≤ (k : Int) := by omega
            have e6 : 1 ≤ k := by omega
            have e7 : (k : Int) < (n : Int) + 1 := by omega
            have e8 : k < n + 1 := by omega
            have e9 : 0 < k := by omega
            have e10 : (k : Int) ≤ (n : Int) := by omega
            have e11 : k - 1 = j := by omega
            clear hx hy hkl hne hc hin hyi y1 y2 y3 s1 s2 s3 s4 hk
            cases hcmp : decide (xa < ya + yb) with
            | true =>
              go_wp2_with fail
              go_region_held3 (fun w' => w'.cell? ⟨b, off + k * 2, none⟩ = some (.int .i64 xa) ∧ w'.cell? ⟨b, off + j * 2, none⟩ = some (.int .i64 ya) ∧ w'.cell? ⟨b, off + j * 2 + 1, none⟩ = some (.int .i64 yb))
                (first | go_keep | (refine ⟨?_, ?_, ?_⟩ <;> assumption) | (exact ⟨(BX.out.cell (p := ⟨b, off + k * 2, none⟩) hbl).trans r0, (BX.out.cell (p := ⟨b, off + j * 2, none⟩) hbl).trans q0, (BX.out.cell (p := ⟨b, off + j * 2 + 1, none⟩) hbl).trans q1⟩))
                (first | (go_at_call 27; refine (C.out _).mono ?_; rintro e w4 ⟨rfl, hb4⟩; have BX : Hid (Below wr.heap.size wr w4) := (Below.refl _ _).drew.trans hb4; clear hb4))
              have HB4 := Lib.hid (hv.out.next BX.out).bel
              have HO := Lib.hid (not_rise (s := s) (l := l) HP.out HT.out HK.out (by rw [HX.out, HY2.out]; simpa using hcmp))
              go_wp2_with fail
              go_ret2
              exact ⟨HB4.out, .inl ⟨HO.out, rfl⟩⟩
            | false =>
              go_wp2_with fail
              go_region_held3 (fun w' => w'.cell? ⟨b, off + k * 2, none⟩ = some (.int .i64 xa) ∧ w'.cell? ⟨b, off + j * 2, none⟩ = some (.int .i64 ya) ∧ w'.cell? ⟨b, off + j * 2 + 1, none⟩ = some (.int .i64 yb))
                (first | go_keep | (refine ⟨?_, ?_, ?_⟩ <;> assumption) | (exact ⟨(BX.out.cell (p := ⟨b, off + k * 2, none⟩) hbl).trans r0, (BX.out.cell (p := ⟨b, off + j * 2, none⟩) hbl).trans q0, (BX.out.cell (p := ⟨b, off + j * 2 + 1, none⟩) hbl).trans q1⟩))
                (first | (go_at_call 27; refine (C.out _).mono ?_; rintro e w4 ⟨rfl, hb4⟩; have BX : Hid (Below wr.heap.size wr w4) := (Below.refl _ _).drew.trans hb4; clear hb4))
              have HV : Hid (Srt w w4 (some ⟨b, off, none⟩) z (k + 1)) := (hv.out.next BX.out).more HKJ.out HK.out (by rw [HX.out, HY2.out]; simpa using hcmp)
              go_wp2_with fail
              go_roundw
              case rel => exact ⟨j + 1, by omega, by have := HKJ.out; go_num, by rw [← HKJ.out]; exact HV⟩
              case measure => simp [intOf]; omega
          · have hd : decide ((k : Int) < (n : Int)) = false := by simp; omega
            have hd2 : decide (k < n) = false := by simp; omega
            have IS := Lib.hid (is_ok (s := s) (l := l) HR.out HP.out HA.out (fun i h => hv.out.ok i h (by have := HL.out; omega)))
            go_wp2_with fail
            go_ret2
            exact ⟨hv.out.bel, .inr ⟨IS.out.1, q, d, z, rfl, HP.out, IS.out.2, hv.out.row⟩⟩
end Xm
end Go.Proofs.Ytemdlnphlibcaaa
