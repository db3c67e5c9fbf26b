/- The iterator that tells a region's gaps, walked. -/
import Derived.Test.YtemdlnphlibcaaaExtIter
namespace Go.Proofs.Ytemdlnphlibcaaa
namespace Xm
open Go.RowKit Go.Shelf Geo
set_option linter.unusedVariables false
attribute [local go_sem] Oper.semAt_some

set_option maxRecDepth 100000 in
set_option maxHeartbeats 2000000 in
theorem gaps1_in (m : Nat) (hm : 1 ≤ m) (ly p n₁ bg bs : Nat) (s l : Int) (q : Option Addr) (d n : Nat) (z : List (Int × Int)) (hn : n = z.length) (hn63 : n ≤ 4611686018427387904) (hr : regB s l = true) (hin : ∀ x ∈ z, inB s l x = true) (hz : Rise z) (J Jx : List (Int × Int) → World → Prop) (B0 : Nat) (hJ : AbidesFrom B0 J)
    (hY : ∀ pre x W, J pre W → pre.length < (along s (s + l) z).length → YieldAt Fence.wide (m - 1) Try.prog ly (encG x) W fun e W' =>
      (e = .returned (.bool true) ∧ J (pre ++ [x]) W' ∧ Kp p W W') ∨ (e = .returned (.bool false) ∧ Jx (pre ++ [x]) W'))
    (W : World) (hpn : p < n₁) (hgn : bg < n₁) (hgp : bg ≠ p) (cs : W.cell? ⟨bs, 0, none⟩ = some (.slice q n d)) (h0 : IMid J p n₁ bg s l q z [] s 0 W) :
    CallsIn Fence.wide m Try.prog 28 #[.func (.yield ly) #[] #[], .pointer (some ⟨bg, 0, none⟩), .pointer (some ⟨bs, 0, none⟩)] W fun e W' => (∃ v, e = .returned v) ∧
      ((∃ ys, ys = along s (s + l) z ∧ J ys W') ∨ (∃ pre, pre <+: along s (s + l) z ∧ Jx pre W')) := by
  refine callsIn_of_wp Try.func28 rfl trivial ?_ rfl
  simp only [Try.ntmps28, List.size_toArray, List.length_cons, List.length_nil, Nat.reduceAdd, Nat.reduceSub, Array.replicate_succ, Array.replicate_zero, List.push_toArray, List.append_toArray, List.nil_append, List.cons_append]
  have H0 := Lib.hid h0
  have HJ := Lib.hid hJ
  have HY := Lib.hid hY
  have HI := Lib.hid hin
  have HZ := Lib.hid hz
  have HN := Lib.hid hn
  have HR := Lib.hid hr
  have g0 := h0.g.c0
  clear hJ hY h0 hin hz hn hr
  gi_wp2
  gi_loopw [4, 12] (fun v i wr => ∃ (pre : List (Int × Int)) (next : Int) (k : Nat), k ≤ n ∧ v = .int .i64 next ∧ i = .int .i64 (k : Int) ∧ Hid (IMid J p n₁ bg s l q z pre next k wr)) (fun _ i _ => n - (intOf i).toNat)
  case atStart => exact ⟨[], s, 0, Nat.zero_le _, rfl, rfl, H0⟩
  case round =>
    obtain ⟨pre, next, k, hk, rfl, rfl, hmid⟩ := hrel
    by_cases hlt : k < n
    · have hkl : k < z.length := by rw [← HN.out]; exact hlt
      have hne : z ≠ [] := by intro e; rw [e] at hkl; simp at hkl
      obtain ⟨b, off, rfl, hbl, hc⟩ := hmid.out.row.row hne
      obtain ⟨r0, r1⟩ := hc k hkl
      have hxi := HI.out _ (List.getElem_mem hkl)
      obtain ⟨⟨xa, xb⟩, hx⟩ : ∃ x, x = z[k] := ⟨_, rfl⟩
      rw [← hx] at r0 r1 hxi
      obtain ⟨i1, i2, i3⟩ := in_iff.1 hxi
      obtain ⟨s1, s2, s3, s4⟩ := reg_iff.1 HR.out
      dsimp only at r0 r1 i1 i2 i3
      have hle : next ≤ xa := by have := hmid.out.rest k hkl (Nat.le_refl _); rw [← hx] at this; exact this
      have hlo := hmid.out.lo
      have HX : Hid (∀ h : k < z.length, z[k] = (xa, xb)) := fun _ => hx.symm
      have HK := Lib.hid hkl
      have HXI := Lib.hid hxi
      have C := Lib.hid (fun w1 => end_any xa xb w1 (by omega) (by omega))
      have hd : decide ((k : Int) < (n : Int)) = true := by simp; omega
      have hd2 : decide (k < n) = true := by simp; omega
      have e1 : IntKind.i64.wrap (xa - next) = xa - next := IntWalk.i64_in _ (by omega)
      clear hx hkl hne hc hxi
      by_cases hgt : next < xa
      · have d3 : decide (xa > next) = true := by simpa using hgt
        have hm1 := hmid.out.newer HJ.out hpn (below_new wr (.cells #[.int .i64 xa, .int .i64 xb] 23))
        have hga := hm1.gap HK.out (by rw [HX.out]; exact hgt)
        rw [HX.out HK.out] at hga
        dsimp only at hga
        have hlen : pre.length < (along s (s + l) z).length := by rw [hga]; simp
        have HP : Hid (pre ++ [(next, xa - next)] <+: along s (s + l) z) := ⟨_, hga.symm⟩
        have HS : Hid (∀ w3, J (pre ++ [(next, xa - next)]) w3 → Kp p (wr.alloc (.cells #[.int .i64 xa, .int .i64 xb] 23)) w3 → IMid J p n₁ bg s l (some ⟨b, off, none⟩) z (pre ++ [(next, xa - next)]) (xa + xb) (k + 1) w3) := fun w3 hj hkp => by
          have := hm1.step HZ.out HK.out (by rw [HX.out]; exact HXI.out) (by rw [HX.out]; exact hgt) hpn hgn hgp (w3 := w3) (by rw [HX.out]; exact hj) hkp
          rw [HX.out HK.out] at this
          exact this
        have hsz := hmid.out.size
        have hown := hmid.out.own
        have HB : Hid (∀ w3, Kp p (wr.alloc (.cells #[.int .i64 xa, .int .i64 xb] 23)) w3 → Bx w3 wr.heap.size xa xb) := fun w3 hkp => by
          refine hkp.same wr.heap.size _ (Bx.new wr xa xb) rfl (by omega) fun e => ?_
          rw [ownAt_same (Below.heap_alloc _ _ _ (by omega))] at e
          have := (hown _ e).2; omega
        obtain ⟨fn, tmps, assign, body, hy, hR⟩ := HY.out pre (next, xa - next) _ hm1.j hlen
        clear hm1 hga hlen hsz hown
        unfold encG at hy
        dsimp only at hy
        gi_wp2_with fail
        refine hR.mono ?_
        rintro e W3 (⟨rfl, hJ3, hk3⟩ | ⟨rfl, hJx3⟩)
        · have hbx := HB.out W3 hk3
          have hm3 := HS.out W3 hJ3 hk3
          have f0 := hbx.c0
          have f1 := hbx.c1
          have HM3 := Lib.hid hm3
          clear hm3 hk3 hJ3 hbx r0 r1
          gi_wp2_with fail
          refine ⟨trivial, (callsIn_wide.2 (C.out _)).mono ?_⟩
          rintro e w4 ⟨rfl, hb⟩
          have HM4 := Lib.hid (HM3.out.newer HJ.out hpn hb)
          clear hb f0 f1
          gi_wp2
          go_roundw
          case rel => exact ⟨_, xa + xb, k + 1, by omega, by go_num, by go_num, HM4⟩
          case measure => simp [intOf]; omega
        · gi_wp2
          refine bodyPost_ret (results_none rfl _ _ _) rfl ?_
          exact ⟨⟨_, rfl⟩, .inr ⟨_, HP.out, hJx3⟩⟩
      · have d3 : decide (xa > next) = false := by simpa using hgt
        gi_wp2_with fail
        refine ⟨fun f h => (by cases h), ?_⟩
        go_at_K
        gi_wp2_with fail
        refine ⟨trivial, (callsIn_wide.2 (C.out _)).mono ?_⟩
        rintro e w2 ⟨rfl, hb⟩
        have HM := Lib.hid (((hmid.out.skip HZ.out HK.out (by rw [HX.out]; exact HXI.out) (by rw [HX.out]; show ¬ next < xa; omega)).newer HJ.out hpn (below_new wr (.cells #[.int .i64 xa, .int .i64 xb] 23))).newer HJ.out hpn hb)
        rw [HX.out HK.out] at HM
        clear hb r0 r1
        gi_wp2
        go_roundw
        case rel => exact ⟨pre, xa + xb, k + 1, by omega, by go_num, by go_num, HM⟩
        case measure => simp [intOf]; omega
    · have hd : decide ((k : Int) < (n : Int)) = false := by simp; omega
      have hd2 : decide (k < n) = false := by simp; omega
      have hla := hmid.out.last (by have := HN.out; omega)
      have hlo := hmid.out.lo
      have hhi := hmid.out.hi
      have g0 := hmid.out.g.c0
      have g1 := hmid.out.g.c1
      obtain ⟨s1, s2, s3, s4⟩ := reg_iff.1 HR.out
      have C := Lib.hid (fun w1 => end_any s l w1 (by omega) (by omega))
      have e1 : IntKind.i64.wrap (s + l - next) = s + l - next := IntWalk.i64_in _ (by omega)
      by_cases hgt : next < s + l
      · have d3 : decide (s + l - next > 0) = true := by simp; omega
        rw [if_pos hgt] at hla
        have HL := Lib.hid hla
        clear hla
        gi_wp2_with fail
        refine ⟨trivial, (callsIn_wide.2 (C.out _)).mono ?_⟩
        rintro e w2 ⟨rfl, hb⟩
        have hm1 := hmid.out.newer HJ.out hpn hb
        have hlen : pre.length < (along s (s + l) z).length := by rw [HL.out]; simp
        have HP : Hid (pre ++ [(next, s + l - next)] <+: along s (s + l) z) := ⟨[], by rw [List.append_nil]; exact HL.out.symm⟩
        obtain ⟨fn, tmps, assign, body, hy, hR⟩ := HY.out pre (next, s + l - next) _ hm1.j hlen
        clear hm1 hlen hb g0 g1
        unfold encG at hy
        dsimp only at hy
        gi_wp2_with fail
        refine hR.mono ?_
        rintro e W3 (⟨rfl, hJ3, hk3⟩ | ⟨rfl, hJx3⟩)
        · have HJ3 := Lib.hid hJ3
          clear hJ3 hk3
          gi_wp2
          go_end0
          exact ⟨⟨_, rfl⟩, .inl ⟨_, HL.out.symm, HJ3.out⟩⟩
        · gi_wp2
          go_end0
          exact ⟨⟨_, rfl⟩, .inr ⟨_, HP.out, hJx3⟩⟩
      · have d3 : decide (s + l - next > 0) = false := by simp; omega
        rw [if_neg hgt, List.append_nil] at hla
        have HL := Lib.hid hla
        clear hla
        gi_wp2_with fail
        refine ⟨trivial, (callsIn_wide.2 (C.out _)).mono ?_⟩
        rintro e w2 ⟨rfl, hb⟩
        have HM := Lib.hid (hmid.out.newer HJ.out hpn hb).j
        clear hb g0 g1
        gi_wp2_with fail
        go_end0
        exact ⟨⟨_, rfl⟩, .inl ⟨pre, HL.out.symm, HM.out⟩⟩
end Xm
end Go.Proofs.Ytemdlnphlibcaaa
