/- Part 33 of the contracts and of the plain mathematics that the proof of the law rests on: TabRAll. -/
import Derived.Test.YtbmabcddciibfaaGreatFa31
import Derived.Lib.Agree
namespace Go.Proofs.YtbmabcddciibfaaGreat
namespace Tb
open Go.RowKit Dsk Go.Maps
set_option linter.unusedVariables false
set_option maxRecDepth 100000
def Best (m : List Int) (la : Int) (i : Nat) (b : Int) : Prop :=
  (b = -1 ∧ ∀ (y : Nat) (x : Int), y < i → m[y]? = some x → x ≤ la) ∨
  ∃ (q : Nat) (z : Int), b = (q : Int) ∧ m[q]? = some z ∧ la < z ∧ ∀ (y : Nat) (x : Int), y < i → m[y]? = some x → la < x → z ≤ x
theorem Best.start (m : List Int) (la : Int) : Best m la 0 (-1) := .inl ⟨rfl, fun y x h => absurd h (by omega)⟩
theorem Best.none {m : List Int} {la b : Int} {i : Nat} {x : Int} (h : Best m la i b) (hx : m[i]? = some x) (hl : x ≤ la) : Best m la (i + 1) b := by
  rcases h with ⟨e, h⟩ | ⟨q, z, e, hq, hz, h⟩
  · refine .inl ⟨e, fun y x' hy hx' => ?_⟩
    by_cases ey : y = i
    · rw [ey, hx] at hx'; injection hx' with hx'; omega
    · exact h y x' (by omega) hx'
  · refine .inr ⟨q, z, e, hq, hz, fun y x' hy hx' hl' => ?_⟩
    by_cases ey : y = i
    · rw [ey, hx] at hx'; injection hx' with hx'; omega
    · exact h y x' (by omega) hx' hl'
theorem Best.first {m : List Int} {la : Int} {i : Nat} {x : Int} (h : Best m la i (-1)) (hx : m[i]? = some x) (hl : la < x) : Best m la (i + 1) (i : Int) := by
  rcases h with ⟨_, h⟩ | ⟨q, z, e, _⟩
  · refine .inr ⟨i, x, rfl, hx, hl, fun y x' hy hx' hl' => ?_⟩
    by_cases ey : y = i
    · rw [ey, hx] at hx'; injection hx' with hx'; omega
    · have := h y x' (by omega) hx'; omega
  · omega
theorem Best.less {m : List Int} {la : Int} {i q : Nat} {x z : Int} (h : Best m la i (q : Int)) (hq : m[q]? = some z) (hx : m[i]? = some x) (hl : la < x) (hlt : x < z) : Best m la (i + 1) (i : Int) := by
  rcases h with ⟨e, _⟩ | ⟨q', z', e, hq', hz, h⟩
  · omega
  · have : q' = q := by omega
    subst this
    rw [hq] at hq'; injection hq' with hq'
    refine .inr ⟨i, x, rfl, hx, hl, fun y x' hy hx' hl' => ?_⟩
    by_cases ey : y = i
    · rw [ey, hx] at hx'; injection hx' with hx'; omega
    · have := h y x' (by omega) hx' hl'; omega
theorem Best.more {m : List Int} {la : Int} {i q : Nat} {x z : Int} (h : Best m la i (q : Int)) (hq : m[q]? = some z) (hx : m[i]? = some x) (hle : z ≤ x) : Best m la (i + 1) (q : Int) := by
  rcases h with ⟨e, _⟩ | ⟨q', z', e, hq', hz, h⟩
  · omega
  · have : q' = q := by omega
    subst this
    rw [hq] at hq'; injection hq' with hq'
    refine .inr ⟨q', z', rfl, by rw [hq, hq'], hz, fun y x' hy hx' hl' => ?_⟩
    by_cases ey : y = i
    · rw [ey, hx] at hx'; injection hx' with hx'; omega
    · exact h y x' (by omega) hx' hl'
def sLen : Value → Nat
  | .slice _ k _ => k
  | _ => 0
set_option maxHeartbeats 2000000 in
theorem rall_any {w : World} {a : Option Addr} {c : Nat} {m : List Int} (h : Ints w (.slice a m.length c) m) (hok : Ok m) :
    Calls Tryz.prog 48 #[.slice a m.length c] w (MadeE (all m) w) := by
  have H := Lib.hid h
  have HOK := Lib.hid hok
  have hm := hok.few
  obtain ⟨n, hn⟩ : ∃ n, n = m.length := ⟨_, rfl⟩
  have HN := Lib.hid hn
  rw [← hn] at hm ⊢
  clear h hn hok
  go_enter Tryz.func48, Tryz.ntmps48
  go_wp2
  go_loopw [3, 4] (fun s la wr => ∃ (r : Nat) (v : Value), s = v ∧ la = .int .i64 (last m r) ∧ r ≤ 1048576 ∧ Hid (r ≤ (keys m).length) ∧ Hid (GrowsE w ((all m).take r) v r wr)) (fun s _ _ => 1048577 - sLen s)
  case atStart => exact ⟨0, _, rfl, rfl, by omega, Lib.hid (Nat.zero_le _), Lib.hid (GrowsE.nil (Below.refl _ _))⟩
  case round =>
    obtain ⟨r, v, rfl, rfl, hrb, hrk, hg⟩ := hrel
    obtain ⟨va, vc, hv⟩ := own_slice hg.out.row
    subst hv
    obtain ⟨la, hla⟩ : ∃ la, la = last m r := ⟨_, rfl⟩
    rw [← hla]
    have HLA := Lib.hid hla
    clear hla
    go_wp2
    go_loopw [6, 5] (fun i b wi => ∃ (j : Nat) (bq : Int), i = .int .i64 (j : Int) ∧ b = .int .i64 bq ∧ j ≤ n ∧ Hid (Best m la j bq) ∧ Hid (Below wr.heap.size wr wi)) (fun i _ _ => n - (Lib.intOf i).toNat)
    case atStart => exact ⟨0, -1, rfl, rfl, Nat.zero_le _, Lib.hid (Best.start m la), Lib.hid (Below.refl _ _)⟩
    case round =>
      obtain ⟨j, bq, rfl, rfl, hj, hb, hw⟩ := hrel
      by_cases hlt : j < n
      · have t1 : decide ((j : Int) < (n : Int)) = true := by simp; omega
        have t2 : decide (j < n) = true := by simp; omega
        have hj0 : (0 : Int) ≤ (j : Int) := by omega
        have hj1 : (j : Int) < (n : Int) := by omega
        obtain ⟨ab, e1, hab, hac, _⟩ := ints_cell H.out j (by have := HN.out; omega)
        subst e1
        have hbw := hg.out.below.trans (hw.out.mono hg.out.below.size)
        have c1 := (hbw.cell (p := ⟨ab, j, none⟩) hab).trans hac
        have hget := Hp.at_get m j (by have := HN.out; omega)
        obtain ⟨x, hx⟩ : ∃ x, x = Hp.at_ m j := ⟨_, rfl⟩
        rw [← hx] at c1 hget
        have HG := Lib.hid hget
        have HBW := Lib.hid hbw
        have hw1 : IntKind.i64.wrap ((j : Int) + 1) = ((j + 1 : Nat) : Int) := by rw [IntWalk.i64_in _ (by omega)]; rfl
        clear hx hget hac hbw
        by_cases hxl : la < x
        · have t3 : decide (la < x) = true := by simpa using hxl
          by_cases hb0 : bq < 0
          · have t4 : decide (bq < 0) = true := by simpa using hb0
            have hbm : bq = -1 := by
              rcases hb.out with ⟨e, _⟩ | ⟨q, z, e, _⟩
              · exact e
              · omega
            subst hbm
            have N2 := Lib.hid (hb.out.first HG.out hxl)
            clear hb0 hxl
            go_wp2
            go_quiet (fail)
            go_wp2
            go_roundw
            case rel => exact ⟨j + 1, (j : Int), by go_num, rfl, by omega, N2, Lib.hid (by first | exact Dsk.below_q hw.out _ | exact hw.out)⟩
            case measure => simp [Lib.intOf]; omega
          · have t4 : decide (bq < 0) = false := by simpa using hb0
            obtain ⟨q, z, hq, hqz⟩ : ∃ (q : Nat) (z : Int), bq = (q : Int) ∧ m[q]? = some z := by
              rcases hb.out with ⟨e, _⟩ | ⟨q, z, e, hq, _⟩
              · omega
              · exact ⟨q, z, e, hq⟩
            subst hq
            have hql := (List.getElem?_eq_some_iff.1 hqz).1
            obtain ⟨_, e1, _, hqc, _⟩ := ints_cell H.out q hql
            cases e1
            have c2 := (HBW.out.cell (p := ⟨ab, q, none⟩) hab).trans hqc
            have hqa := Hp.at_get m q hql
            rw [hqz] at hqa
            injection hqa with hqa
            rw [← hqa] at c2
            have HQZ := Lib.hid hqz
            have hq0 : (0 : Int) ≤ (q : Int) := by omega
            have hq1 : (q : Int) < (n : Int) := by have := HN.out; omega
            have hq2 : q < n := by have := HN.out; omega
            clear hqz hql hqc hqa hb0
            by_cases hxz : x < z
            · have t5 : decide (x < z) = true := by simpa using hxz
              have N2 := Lib.hid (hb.out.less HQZ.out HG.out hxl hxz)
              clear hxz hxl
              go_wp2
              go_quiet (fail)
              go_wp2
              go_roundw
              case rel => exact ⟨j + 1, (j : Int), by go_num, rfl, by omega, N2, Lib.hid (by first | exact Dsk.below_q hw.out _ | exact hw.out)⟩
              case measure => simp [Lib.intOf]; omega
            · have t5 : decide (x < z) = false := by simpa using hxz
              have N2 := Lib.hid (hb.out.more HQZ.out HG.out (by omega))
              clear hxz hxl
              go_wp2
              go_quiet (fail)
              go_wp2
              go_roundw
              case rel => exact ⟨j + 1, (q : Int), by go_num, rfl, by omega, N2, Lib.hid (by first | exact Dsk.below_q hw.out _ | exact hw.out)⟩
              case measure => simp [Lib.intOf]; omega
        · have t3 : decide (la < x) = false := by simpa using hxl
          have N2 := Lib.hid (hb.out.none HG.out (by omega))
          clear hxl
          go_wp2
          go_quiet (fail)
          go_wp2
          go_roundw
          case rel => exact ⟨j + 1, bq, by go_num, rfl, by omega, N2, Lib.hid (by first | exact Dsk.below_q hw.out _ | exact hw.out)⟩
          case measure => simp [Lib.intOf]; omega
      · obtain rfl : j = n := by omega
        have t1 : decide ((j : Int) < (j : Int)) = false := by simp
        have t2 : decide (j < j) = false := by simp
        have hg2 := Lib.hid (hg.out.next hw.out)
        by_cases hb0 : bq < 0
        · have t4 : decide (bq < 0) = true := by simpa using hb0
          have hr : r = (keys m).length := by
            refine next_none HOK.out hrk.out fun y hy => ?_
            obtain ⟨i, hi⟩ := List.getElem?_of_mem hy
            rw [← HLA.out]
            rcases hb.out with ⟨_, h⟩ | ⟨q, z, e, _⟩
            · exact h i y (by have := (List.getElem?_eq_some_iff.1 hi).1; have := HN.out; omega) hi
            · omega
          have FIN : Hid (MadeE (all m) w (.returned (.slice va r vc)) wr) := Lib.hid (by
            have := hg2.out
            rw [List.take_of_length_le (by rw [all_length, ← keys_length]; omega)] at this
            exact this.made)
          clear hb0 hr
          go_wp2
          go_ret
          exact FIN.out
        · have t4 : decide (bq < 0) = false := by simpa using hb0
          obtain ⟨q, z, hq, hqz, hlz, hmin⟩ : ∃ (q : Nat) (z : Int), bq = (q : Int) ∧ m[q]? = some z ∧ la < z ∧ ∀ (y : Nat) (x : Int), y < j → m[y]? = some x → la < x → z ≤ x := by
            rcases hb.out with ⟨e, _⟩ | ⟨q, z, e, hq⟩
            · omega
            · exact ⟨q, z, e, hq⟩
          subst hq
          have hql := (List.getElem?_eq_some_iff.1 hqz).1
          obtain ⟨ab, e1, hab, hqc, _⟩ := ints_cell H.out q hql
          subst e1
          have c2 := ((hg.out.below.trans (hw.out.mono hg.out.below.size)).cell (p := ⟨ab, q, none⟩) hab).trans hqc
          have hqa := Hp.at_get m q hql
          rw [hqz] at hqa
          injection hqa with hqa
          rw [← hqa] at c2
          have hq0 : (0 : Int) ≤ (q : Int) := by omega
          have hq1 : (q : Int) < (j : Int) := by have := HN.out; omega
          have hq2 : q < j := by have := HN.out; omega
          have hkey : (keys m)[r]? = some z := next_some HOK.out hrk.out (List.mem_of_getElem? hqz) (by rw [← HLA.out]; exact hlz) fun y hy hly => by
            obtain ⟨i, hi⟩ := List.getElem?_of_mem hy
            exact hmin i y (by have := (List.getElem?_eq_some_iff.1 hi).1; have := HN.out; omega) hi (by rw [HLA.out]; exact hly)
          have hz0 : 0 ≤ z := (keys_mem.1 (List.mem_of_getElem? hkey)).2
          have HEN : Hid ((all m).take (r + 1) = (all m).take r ++ [(z, (q : Int))]) := Lib.hid (by
            rw [List.take_add_one]
            unfold all
            rw [List.getElem?_map, hkey]
            have : entry m z = (z, (q : Int)) := by unfold entry; rw [HOK.out.find hz0 hqz]; rfl
            simp [this])
          have HLN : Hid (last m (r + 1) = z) := Lib.hid (last_succ hkey)
          have hrk2 : r + 1 ≤ (keys m).length := (List.getElem?_eq_some_iff.1 hkey).1
          have HRK := Lib.hid hrk2
          have hkb : (keys m).length ≤ 1048576 := by rw [keys_length]; have := used_length_le m; have := HOK.out.few; omega
          have hrb2 : r + 1 ≤ 1048576 := by omega
          have OWN := Lib.hid (hg2.out.own z (q : Int))
          have HLE := Lib.hid hg2.out.len
          clear hqz hlz hmin hql hqc hqa hkey hz0 hrk2 hkb hb0
          go_wp2_with (at_builtin; refine wpList_addE rfl (.tmp 42) (.tmp 46) rfl (.slice va r vc) r ((all m).take r) rfl HLE.out (by omega) OWN.out _ z (q : Int) rfl (heap_alloc_new _ _) ?_; intro v' w4 h1 h2 h3; have G4 := Lib.hid (hg2.out.add h1 h2 h3); clear h1 h2 h3)
          obtain ⟨xa, xc, hxv⟩ := own_slice G4.out.row
          subst hxv
          refine ⟨⟨r + 1, _, rfl, by rw [HLN.out], hrb2, HRK, by rw [HEN.out]; exact G4⟩, ?_⟩
          simp [sLen]
          omega
end Tb
end Go.Proofs.YtbmabcddciibfaaGreat
