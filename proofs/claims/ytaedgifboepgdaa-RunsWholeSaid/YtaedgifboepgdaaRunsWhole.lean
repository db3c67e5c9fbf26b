/- All runs, one behind the other, are the exceptions; none can be longer. -/
import Derived.Test.YtaedgifboepgdaaRunAlive
namespace Go.Proofs.Ytaedgifboepgdaa
namespace Rn
open Go.RowKit Dsk Tb
set_option linter.unusedVariables false
set_option maxRecDepth 100000

theorem whole_alive {m : Int} {l : List E} {n c : Nat} (hin : In m l n c) (h : 100 < n ∨ rightB m l = false) (a : Option Addr) (w : World) (hrow : REnts w a l) :
    Calls Try.prog 4 #[.int .i64 m, .slice a n c] w fun e w' => e = .returned (.bool true) ∧ Below w.heap.size w w' := by
  have AL := Lib.hid (fun W : World => alive_any W)
  by_cases h100 : 100 < n
  · have OF := Lib.hid (of_any hin a w hrow)
    have t1 : decide ((n : Int) > 100) = true := by simp; omega
    have t2 : decide (n > 100) = true := by simp; omega
    obtain ⟨x, hx⟩ : ∃ x, x = err m l := ⟨_, rfl⟩
    rw [← hx] at OF
    clear h h100 hin hrow hx
    go_enter Try.func4, Try.ntmps4
    go_wp2_with fail
    refine OF.out.mono ?_
    rintro e w1 ⟨v, vs, rfl, _, hb⟩
    have HB := Lib.hid hb
    clear hb OF
    go_wp2_with fail
    refine (AL.out _).mono ?_
    rintro e w2 ⟨rfl, hb⟩
    go_wp2_with fail
    go_ret
    exact ⟨rfl, HB.out.trans (hb.mono HB.out.size)⟩
  · have hr : rightB m l = false := by
      rcases h with h | h
      · omega
      · exact h
    have OF := Lib.hid (of_no hin a w hrow hr)
    have t1 : decide ((n : Int) > 100) = false := by simp; omega
    have t2 : decide (n > 100) = false := by simp; omega
    clear h h100 hin hrow hr
    go_enter Try.func4, Try.ntmps4
    go_wp2_with fail
    refine OF.out.mono ?_
    rintro e w1 ⟨rfl, hb⟩
    have HB := Lib.hid hb
    clear hb OF
    go_wp2_with fail
    refine (AL.out _).mono ?_
    rintro e w2 ⟨rfl, hb⟩
    go_wp2_with fail
    go_ret
    exact ⟨rfl, HB.out.trans (hb.mono HB.out.size)⟩
/-- The first so many runs, one behind the other. -/
def flat (T : List (List E)) (k : Nat) : List E := (T.take k).flatten
theorem flat_succ {T : List (List E)} {k : Nat} {r : List E} (h : T[k]? = some r) : flat T (k + 1) = flat T k ++ r := by
  unfold flat
  rw [List.take_add_one, h]
  simp
theorem flat_all (T : List (List E)) : flat T T.length = T.flatten := by unfold flat; rw [List.take_length]
theorem flat_len (T : List (List E)) (k : Nat) : (flat T k).length ≤ T.flatten.length := by
  have : T.flatten = flat T k ++ (T.drop k).flatten := by
    unfold flat
    rw [← List.flatten_append, List.take_append_drop]
  rw [this, List.length_append]; omega
theorem flat_last {T : List (List E)} {j : Nat} {p : List E} (h : T[j]? = some p) (hp : 1 ≤ p.length) : ∃ y, (flat T (j + 1))[(flat T (j + 1)).length - 1]? = some y ∧ y.1 = lastOf p ∧ y ∈ p := by
  rw [flat_succ h]
  obtain ⟨q, hq⟩ : ∃ q, p.length = q + 1 := ⟨p.length - 1, by omega⟩
  refine ⟨p[q]'(by omega), ?_, ?_, List.getElem_mem _⟩
  · rw [List.length_append, List.getElem?_append_right (by omega), show (flat T j).length + p.length - 1 - (flat T j).length = q by omega, List.getElem?_eq_getElem]
  · have := lastOf_take (l := p) (k := q) (by omega)
    rw [List.take_of_length_le (by omega)] at this
    exact this.symm

set_option maxHeartbeats 4000000 in
theorem whole_yes {m : Int} {l : List E} {n c : Nat} (hin : In m l n c) (h : n ≤ 100) (hr : rightB m l = true) (a : Option Addr) (w : World) (hrow : REnts w a l) :
    Calls Try.prog 4 #[.int .i64 m, .slice a n c] w fun e w' => e = .returned (.bool true) ∧ Below w.heap.size w w' := by
  have HX := Lib.hid hrow
  have hm1 := (right_iff.1 hr).1
  have hm2 := hin.m1
  have OF := Lib.hid (of_ok hin a w hrow hr)
  have AL := Lib.hid (fun W : World => alive_any W)
  have HIN : Hid (∀ (i : Nat) (r : List E) (x : E), (told m l)[i]? = some r → x ∈ r → 0 ≤ x.1 ∧ x.1 ≤ 9223372036854775807) := Lib.hid fun i r x hr2 hx => by
    have : x ∈ l := by
      rw [← told_flat m l]
      exact List.mem_flatten.2 ⟨r, List.mem_of_getElem? hr2, hx⟩
    obtain ⟨j, hj, rfl⟩ := List.getElem_of_mem this
    exact ⟨pos_at hr hj, (hin.get hj).2⟩
  have HGD : Hid (∀ (i : Nat) (r : List E), (told m l)[i]? = some r → Good m r) := Lib.hid fun i r hr2 => told_good hm1 l r (List.mem_of_getElem? hr2)
  have HPT : Hid (∀ (i : Nat) (a b : List E), (told m l)[i]? = some a → (told m l)[i + 1]? = some b → Parted m a b) := Lib.hid (told_parted m l)
  have HFA : Hid ((told m l).flatten = l) := Lib.hid (told_flat m l)
  have hTl : (told m l).length ≤ 100 := by have := told_len m l; have := hin.len; omega
  obtain ⟨T, hT⟩ : ∃ T, T = told m l := ⟨_, rfl⟩
  rw [← hT] at OF HIN HGD HPT HFA hTl
  have HLN : Hid (n = l.length) := Lib.hid hin.len
  obtain ⟨N, hN⟩ : ∃ N, N = T.length := ⟨_, rfl⟩
  have HNN := Lib.hid hN
  rw [← hN] at hTl
  have t1 : decide ((n : Int) > 100) = false := by simp; omega
  have t2 : decide (n > 100) = false := by simp; omega
  obtain ⟨i0, hi, hz0, hz1, hz2⟩ := info_parts info_entry
  clear hin hr hrow hT hN
  go_enter Try.func4, Try.ntmps4
  go_wp2_with fail
  refine OF.out.mono ?_
  rintro e w1 ⟨v, vs, rfl, hrows, hb⟩
  obtain ⟨va, vc, rfl⟩ := hrows.value
  rw [← HNN.out] at hrows ⊢
  have HB1 := Lib.hid hb
  have HRW := Lib.hid hrows
  clear hb hrows OF
  go_wp2_with fail
  go_loopw [7, 8] (fun v i wr => ∃ (k : Nat) (aa : Option Addr) (na ca : Nat), k ≤ N ∧ v = .slice aa na ca ∧ i = .int .i64 k ∧ Hid (na = (flat T k).length) ∧ Hid (wr.ownsRow w1.heap.size 36 2 (.slice aa na ca) na (ecells (flat T k))) ∧ Hid (Below w1.heap.size w1 wr)) (fun _ i _ => N - (numOf i).toNat)
  case atStart => exact ⟨0, none, 0, 0, Nat.zero_le _, rfl, rfl, Lib.hid rfl, Lib.hid (World.ownsRow_nil _ _ _ _), Lib.hid (Below.refl _ _)⟩
  case round =>
    obtain ⟨k, aa, na, ca, hk, rfl, rfl, hna, hown, hb⟩ := hrel
    have hnab : na ≤ 100 := by have := flat_len T k; have := hna.out; have := HLN.out; rw [HFA.out] at *; omega
    by_cases hlt : k < N
    · have t1 : decide ((k : Int) < (N : Int)) = true := by simp; omega
      have t2 : decide (k < N) = true := by simp; omega
      have hkl : k < T.length := by have := HNN.out; omega
      obtain ⟨r, hr⟩ : ∃ r, T[k]? = some r := ⟨_, List.getElem?_eq_getElem hkl⟩
      obtain ⟨xb, xc, pa, pd, e1, _, hxb, c0, _, hpd, r0⟩ := (HRW.out.next hb.out).get hr
      injection e1 with e11 e12 e13
      subst e11
      obtain ⟨g1, g2, g3⟩ := HGD.out k r hr
      have hrne : r ≠ [] := by intro e; rw [e] at g1; simp at g1
      obtain ⟨pb, poff, hpa, _, _⟩ := r0 hrne
      subst hpa
      have hr100 : r.length ≤ 100 := by
        have h1 := mem_len (List.mem_of_getElem? hr)
        have := HLN.out
        rw [HFA.out] at h1; omega
      obtain ⟨rl, hrl⟩ : ∃ rl, rl = r.length := ⟨_, rfl⟩
      rw [← hrl] at c0 g1 g2 hr100 hpd
      have HRL := Lib.hid hrl
      have HG3 := Lib.hid g3
      have HRK := Lib.hid hr
      have HRNE := Lib.hid hrne
      have R0 := Lib.hid r0
      have HFL := Lib.hid (flat_succ hr)
      have HXX : Hid (∀ x ∈ r, 0 ≤ x.1 ∧ x.1 ≤ 9223372036854775807) := Lib.hid fun x hx => HIN.out k r x hr hx
      have HECL : Hid ((ecells r).length = rl * 2) := Lib.hid (by rw [ecells_length, hrl])
      have HMX : Hid (na + rl ≤ maxLen) := Lib.hid (by unfold maxLen; omega)
      have HMB : Hid ((na + rl) * 16 ≤ 140737488355328) := Lib.hid (by omega)
      have hk0 : (0 : Int) ≤ (k : Int) := by omega
      have hk1 : (k : Int) < (N : Int) := by omega
      have hw1 : IntKind.i64.wrap ((k : Int) + 1) = ((k + 1 : Nat) : Int) := by rw [IntWalk.i64_in _ (by omega)]; rfl
      have u1 : decide ((rl : Int) < 1) = false := by simp; omega
      have u2 : decide (rl < 1) = false := by simp; omega
      have u3 : decide ((rl : Int) > m) = false := by simp; omega
      clear hr hrl hrne r0 g3 e12 e13 hkl
      go_wp2
      go_loopw [10] (fun q w2 => ∃ k2 : Nat, 1 ≤ k2 ∧ k2 ≤ rl ∧ q = .int .i64 k2 ∧ Hid (Below wr.heap.size wr w2)) (fun q _ => rl - (numOf q).toNat)
      case atStart => exact ⟨1, Nat.le_refl _, by omega, rfl, Lib.hid (Below.refl _ _)⟩
      case round =>
        obtain ⟨k2, hk21, hk22, rfl, hwb⟩ := hrel
        by_cases hlt2 : k2 < rl
        · have t3 : decide ((k2 : Int) < (rl : Int)) = true := by simp; omega
          have t4 : decide (k2 < rl) = true := by simp; omega
          obtain ⟨j, hj⟩ : ∃ j, k2 = j + 1 := ⟨k2 - 1, by omega⟩
          obtain ⟨_, _, x1, _, h1, d1, _, ex⟩ := ents_nth R0.out hwb.out (show k2 < r.length by have := HRL.out; omega)
          cases h1
          obtain ⟨_, _, y1, _, h1, d2, _, ey⟩ := ents_nth R0.out hwb.out (show j < r.length by have := HRL.out; omega)
          cases h1
          have hxy : x1 = y1 + 1 := by
            subst hj
            have := HG3.out j (by have := HRL.out; omega)
            rw [(List.getElem?_eq_some_iff.1 ex).2, (List.getElem?_eq_some_iff.1 ey).2] at this
            exact this
          have hx01 := HXX.out _ (List.mem_of_getElem? ex)
          have hy01 := HXX.out _ (List.mem_of_getElem? ey)
          dsimp only at hx01 hy01
          have hyw : IntKind.i64.wrap (y1 + 1) = x1 := by rw [IntWalk.i64_in _ (by omega)]; exact hxy.symm
          have hxx : (x1 != x1) = false := by simp
          have d0 := (hwb.out.cell (p := ⟨xb, k, none⟩) hxb).trans c0
          have i0' : (0 : Int) ≤ (k2 : Int) := by omega
          have i1 : (k2 : Int) < (rl : Int) := by omega
          have i2 : (1 : Int) ≤ (k2 : Int) := by omega
          have i3 : (k2 : Int) ≤ (rl : Int) := by omega
          have i4 : (k2 - 1 : Int).toNat = j := by omega
          have i5 : IntKind.i64.wrap ((k2 : Int) - 1) = (k2 : Int) - 1 := IntWalk.i64_in _ (by omega)
          have i6 : IntKind.i64.wrap ((k2 : Int) + 1) = ((k2 + 1 : Nat) : Int) := by rw [IntWalk.i64_in _ (by omega)]; rfl
          clear hxy ex ey hj hx01 hy01
          go_wp2
          go_quiet (fail)
          go_wp2
          go_roundw
          case rel => exact ⟨k2 + 1, by omega, by omega, by go_num, Lib.hid (by first | exact Dsk.below_q hwb.out _ | exact hwb.out)⟩
          case measure => simp [numOf]; omega
        · have hkk : k2 = rl := by omega
          have t3 : decide ((k2 : Int) < (rl : Int)) = false := by simp; omega
          have t4 : decide (k2 < rl) = false := by simp; omega
          have HW2 := Lib.hid hwb.out
          by_cases hkz : k = 0
          · have t5 : decide ((k : Int) > 0) = false := by simp; omega
            have t6 : decide (k > 0) = false := by simp; omega
            clear hkz hkk
            go_wp2
            go_quiet (fail)
            have HB3 : Hid (Below wr.heap.size wr (wr.drewN nq)) := Lib.hid (Dsk.below_q (Below.refl _ _) nq)
            generalize wr.drewN nq = w3 at HB3 ⊢
            have B3 := Lib.hid (HW2.out.trans (HB3.out.mono HW2.out.size))
            have OWN := Lib.hid (own_next hown.out B3.out)
            have R3 := Lib.hid (R0.out.below B3.out)
            have d0 := (B3.out.cell (p := ⟨xb, k, none⟩) hxb).trans c0
            obtain ⟨_, _, hre, _, hcells⟩ := ents_news R3.out HRNE.out
            cases hre
            have HCE : Hid (∀ j v, (ecells r)[j]? = some v → w3.cell? ((⟨pb, poff, none⟩ : Addr).add j) = some v) := Lib.hid fun j v hj => by rw [Addr.add_lit]; exact hcells j v hj
            have HB13 := Lib.hid (hb.out.trans (B3.out.mono hb.out.size))
            clear hcells
            go_wp2_with (at_builtin; refine wpList_append_own _ rfl (.tmp 97) (.tmp 101) 22 rfl w1.heap.size 36 i0 _ 2 16 Try.underlying22 hi hz0 hz1 hz2 rfl (by decide) (.slice (aa) na ca) na (ecells (flat T k)) rfl OWN.out ⟨pb, poff, none⟩ rl pd (ecells r) rfl HECL.out HCE.out (ecells_one r) HMX.out HMB.out HB13.out.size ?_; intro v5 w5 ho5 hg5 _; obtain ⟨a5, c5, hv5⟩ := own_slice ho5; subst hv5; have B5 := Lib.hid ((HB13.out).grown hg5 HB13.out.size (fun j hj => (OWN.out.lt j hj).1)); have HO5 := Lib.hid ho5; clear ho5 hg5)
            go_roundw
            case rel => exact ⟨k + 1, a5, na + rl, c5, by omega, rfl, by go_num, Lib.hid (by rw [HFL.out, List.length_append, ← hna.out, ← HRL.out]), Lib.hid (by rw [HFL.out, ecells_append]; exact HO5.out), B5⟩
            case measure => simp [numOf]; omega
          · have t5 : decide ((k : Int) > 0) = true := by simp; omega
            have t6 : decide (k > 0) = true := by simp; omega
            obtain ⟨j, hj⟩ : ∃ j, k = j + 1 := ⟨k - 1, by omega⟩
            have hjl : j < T.length := by have := HNN.out; omega
            obtain ⟨p, hp⟩ : ∃ p, T[j]? = some p := ⟨_, List.getElem?_eq_getElem hjl⟩
            obtain ⟨_, _, qa, qd, e1, _, _, c5, _, _, _⟩ := (HRW.out.next (hb.out.trans (hwb.out.mono hb.out.size))).get hp
            injection e1 with e11 e12 e13
            cases e11
            have hpg := (HGD.out j p hp).1
            have i2 : (1 : Int) ≤ (k : Int) := by omega
            have i3 : (k : Int) ≤ (N : Int) := by omega
            have i4 : (k - 1 : Int).toNat = j := by omega
            have i5 : IntKind.i64.wrap ((k : Int) - 1) = (k : Int) - 1 := IntWalk.i64_in _ (by omega)
            obtain ⟨pl, hpl⟩ : ∃ pl, pl = p.length := ⟨_, rfl⟩
            rw [← hpl] at c5
            cases hlm : decide ((pl : Int) < m) with
            | false =>
              clear hkk hj hjl hp e12 e13 hpg hpl hkz
              go_wp2
              go_quiet (fail)
              have HB3 : Hid (Below wr.heap.size wr (wr.drewN nq)) := Lib.hid (Dsk.below_q (Below.refl _ _) nq)
              generalize wr.drewN nq = w3 at HB3 ⊢
              have B3 := Lib.hid (HW2.out.trans (HB3.out.mono HW2.out.size))
              have OWN := Lib.hid (own_next hown.out B3.out)
              have R3 := Lib.hid (R0.out.below B3.out)
              have d0 := (B3.out.cell (p := ⟨xb, k, none⟩) hxb).trans c0
              obtain ⟨_, _, hre, _, hcells⟩ := ents_news R3.out HRNE.out
              cases hre
              have HCE : Hid (∀ j v, (ecells r)[j]? = some v → w3.cell? ((⟨pb, poff, none⟩ : Addr).add j) = some v) := Lib.hid fun j v hj => by rw [Addr.add_lit]; exact hcells j v hj
              have HB13 := Lib.hid (hb.out.trans (B3.out.mono hb.out.size))
              clear hcells
              go_wp2_with (at_builtin; refine wpList_append_own _ rfl (.tmp 97) (.tmp 101) 22 rfl w1.heap.size 36 i0 _ 2 16 Try.underlying22 hi hz0 hz1 hz2 rfl (by decide) (.slice (aa) na ca) na (ecells (flat T k)) rfl OWN.out ⟨pb, poff, none⟩ rl pd (ecells r) rfl HECL.out HCE.out (ecells_one r) HMX.out HMB.out HB13.out.size ?_; intro v5 w5 ho5 hg5 _; obtain ⟨a5, c5, hv5⟩ := own_slice ho5; subst hv5; have B5 := Lib.hid ((HB13.out).grown hg5 HB13.out.size (fun j hj => (OWN.out.lt j hj).1)); have HO5 := Lib.hid ho5; clear ho5 hg5)
              go_roundw
              case rel => exact ⟨k + 1, a5, na + rl, c5, by omega, rfl, by go_num, Lib.hid (by rw [HFL.out, List.length_append, ← hna.out, ← HRL.out]), Lib.hid (by rw [HFL.out, ecells_append]; exact HO5.out), B5⟩
              case measure => simp [numOf]; omega
            | true =>
              obtain ⟨y, hy1, hy2, hy3⟩ := flat_last hp hpg
              rw [← hj] at hy1
              obtain ⟨_, _, hae, hal, _, hre⟩ := ents_any hown.out
              have hnap : 1 ≤ na := by
                have := (List.getElem?_eq_some_iff.1 hy1).1; omega
              obtain ⟨q, hq⟩ : ∃ q, na = q + 1 := ⟨na - 1, by omega⟩
              injection hae with hae1 _ hae3
              rw [← hae1] at hre
              obtain ⟨ab, aoff, y0, _, ha, c6, _, ey⟩ := ents_nth hre hwb.out (show q < (flat T k).length by omega)
              subst ha
              have hyy : y.1 = y0 := by
                rw [← hal, hq, show q + 1 - 1 = q by omega, ey] at hy1
                injection hy1 with hy1
                rw [← hy1]
              obtain ⟨_, _, x0, _, h1, d7, _, ex⟩ := ents_nth R0.out hwb.out (show 0 < r.length by have := HRL.out; omega)
              cases h1
              rw [Nat.zero_mul, Nat.add_zero] at d7
              have hx01 := HXX.out _ (List.mem_of_getElem? ex)
              have hy01 := HIN.out j p y hp hy3
              rw [hyy] at hy01 hy2
              dsimp only at hx01
              have hpt : y0 + 1 ≠ x0 := by
                have := HPT.out j p r hp (by rw [← hj]; exact HRK.out)
                intro e
                refine this ⟨?_, by rw [← hpl]; simpa using hlm⟩
                rw [← hy2, List.headD_eq_head?_getD, List.head?_eq_getElem?, ex]
                exact e
              obtain ⟨y1, hyw⟩ : ∃ y1, IntKind.i64.wrap (y0 + 1) = y1 := ⟨_, rfl⟩
              have hxy : (x0 == y1) = false := by
                have : x0 ≠ y1 := by
                  rw [← hyw]
                  by_cases hb : y0 + 1 ≤ 9223372036854775807
                  · rw [IntWalk.i64_in _ (by omega)]; omega
                  · have : y0 = 9223372036854775807 := by omega
                    subst this
                    have e : IntKind.i64.wrap (9223372036854775807 + 1) = -9223372036854775808 := by decide
                    rw [e]; omega
                simpa using this
              have j0 : (0 : Int) ≤ (na : Int) - 1 := by omega
              have j1 : (na : Int) - 1 < (na : Int) := by omega
              have j2 : ((na : Int) - 1).toNat = q := by omega
              have j3 : IntKind.i64.wrap ((na : Int) - 1) = (na : Int) - 1 := IntWalk.i64_in _ (by omega)
              have j4 : (1 : Int) ≤ (na : Int) := by omega
              have j5 : (na : Int) ≤ (na : Int) := by omega
              have z0 : (0 : Int) < (rl : Int) := by omega
              have z1 : 0 < rl := by omega
              have d0 := (hwb.out.cell (p := ⟨xb, k, none⟩) hxb).trans c0
              clear hkk hj hjl hp e12 e13 hpg hpl hkz hy1 hy2 hy3 hal hae1 hae3 hre hq ey ex hyy hx01 hy01 hpt
              go_wp2
              go_quiet (fail)
              have HB3 : Hid (Below wr.heap.size wr (wr.drewN nq)) := Lib.hid (Dsk.below_q (Below.refl _ _) nq)
              generalize wr.drewN nq = w3 at HB3 ⊢
              have B3 := Lib.hid (HW2.out.trans (HB3.out.mono HW2.out.size))
              have OWN := Lib.hid (own_next hown.out B3.out)
              have R3 := Lib.hid (R0.out.below B3.out)
              have d0' := (B3.out.cell (p := ⟨xb, k, none⟩) hxb).trans c0
              obtain ⟨_, _, hre, _, hcells⟩ := ents_news R3.out HRNE.out
              cases hre
              have HCE : Hid (∀ j v, (ecells r)[j]? = some v → w3.cell? ((⟨pb, poff, none⟩ : Addr).add j) = some v) := Lib.hid fun j v hj => by rw [Addr.add_lit]; exact hcells j v hj
              have HB13 := Lib.hid (hb.out.trans (B3.out.mono hb.out.size))
              clear hcells
              go_wp2_with (at_builtin; refine wpList_append_own _ rfl (.tmp 97) (.tmp 101) 22 rfl w1.heap.size 36 i0 _ 2 16 Try.underlying22 hi hz0 hz1 hz2 rfl (by decide) (.slice (some ⟨ab, aoff, none⟩) na ca) na (ecells (flat T k)) rfl OWN.out ⟨pb, poff, none⟩ rl pd (ecells r) rfl HECL.out HCE.out (ecells_one r) HMX.out HMB.out HB13.out.size ?_; intro v5 w5 ho5 hg5 _; obtain ⟨a5, c5, hv5⟩ := own_slice ho5; subst hv5; have B5 := Lib.hid ((HB13.out).grown hg5 HB13.out.size (fun j hj => (OWN.out.lt j hj).1)); have HO5 := Lib.hid ho5; clear ho5 hg5)
              go_roundw
              case rel => exact ⟨k + 1, a5, na + rl, c5, by omega, rfl, by go_num, Lib.hid (by rw [HFL.out, List.length_append, ← hna.out, ← HRL.out]), Lib.hid (by rw [HFL.out, ecells_append]; exact HO5.out), B5⟩
              case measure => simp [numOf]; omega
    · obtain rfl : k = N := by omega
      have t1 : decide ((k : Int) < (k : Int)) = false := by simp
      have t2 : decide (k < k) = false := by simp
      have hfl : flat T k = l := by rw [HNN.out, flat_all, HFA.out]
      have hnl : na = n := by rw [hna.out, hfl]; exact HLN.out.symm
      have SA : Hid (∀ W, Below wr.heap.size wr W → Calls Try.prog 12 #[.slice aa na ca, .slice a n c] W fun e w' => e = .returned (.bool true) ∧ Below W.heap.size W w') := Lib.hid fun W hW => by
        have h1 := own_next hown.out hW
        rw [hfl, hnl, HLN.out] at h1
        rw [hnl, HLN.out]
        exact esame_rows (REnts.own (Geo.own_zero h1)) (HX.out.below (HB1.out.trans ((hb.out.trans (hW.mono hb.out.size)).mono HB1.out.size))) (by have := HLN.out; omega)
      have HBB := Lib.hid (HB1.out.trans (hb.out.mono HB1.out.size))
      clear hfl hnl
      go_wp2_with fail
      refine (AL.out _).mono ?_
      rintro e w4 ⟨rfl, hb4⟩
      have SA4 := Lib.hid (SA.out _ hb4)
      have HB4 := Lib.hid (HBB.out.trans (hb4.mono HBB.out.size))
      clear hb4
      go_wp2_with fail
      refine SA4.out.mono ?_
      rintro e w5 ⟨rfl, hb5⟩
      have HB5 := Lib.hid (HB4.out.trans (hb5.mono HB4.out.size))
      clear hb5
      go_wp2_with fail
      go_ret
      exact ⟨rfl, HB5.out⟩
end Rn
end Go.Proofs.Ytaedgifboepgdaa
