/- Part 4 of the contracts and of the plain mathematics that the proof of the law rests on: DiskWrite, DiskFlush, DiskRMem, DiskRRead, DiskRWrite, DiskRFlush. -/
import Derived.Test.YtbmabcddciibfaaGreatWr03
import Derived.Deep.AppendLies
import Derived.Deep.RegionLaw
namespace Go.Proofs.YtbmabcddciibfaaGreat
namespace Dsk
open Go.RowKit
set_option maxRecDepth 100000
set_option linter.unusedVariables false
theorem Went.trans {o : Ob} {st : Dm.St} {w w1 w2 : World} {o1 : Ob} (h1 : Step o o1 w w1) (h : Went o1 st w1 w2) : Went o st w w2 := by
  obtain ⟨o2, hd, hs⟩ := h
  exact ⟨o2, hd, h1.trans hs⟩
theorem Went.below {o : Ob} {st : Dm.St} {w w1 w2 : World} (hb : Below w.heap.size w w1) (h : Went o st w1 w2) : Went o st w w2 := Went.trans (Step.of_below hb) h
theorem write_no {w : World} {o : Ob} {st : Dm.St} (h : Dk w o st) (a : Int) (l : List UInt8) (ha : a ≤ 9223372036854775807) (hl : l.length ≤ 140737488355328) (hno : st.dead = true ∨ l.length % 64 ≠ 0 ∨ Dm.thereB st a (l.length / 64 : Nat) = false) :
    Calls Tryz.prog 62 #[.pointer (some ⟨o.p, 0, none⟩), .int .i64 a, .string (Om.B l)] w fun e w' => e = .returned (.int .i64 (Dm.write st a l).2) ∧ w = w' := by
  obtain ⟨_, _, _, _, h4, _⟩ := h.reads
  have hs := Om.B_size l
  obtain ⟨n, hn⟩ : ∃ n, n = l.length := ⟨_, rfl⟩
  cases hdead : st.dead with
  | true =>
    have e1 : Dm.write st a l = (st, 41) := by unfold Dm.write; rw [if_pos hdead]
    rw [e1]
    rw [hdead] at h4
    clear hs hdead hno h e1 hn
    go_enter Tryz.func62, Tryz.ntmps62
    go_wp2
    go_ret
    exact ⟨rfl, rfl⟩
  | false =>
    by_cases hm : l.length % 64 = 0
    · have hth : Dm.thereB st a (l.length / 64 : Nat) = false := (hno.resolve_left (by rw [hdead]; decide)).resolve_left (by omega)
      have e1 : Dm.write st a l = (st, 2) := by unfold Dm.write; rw [if_neg (by rw [hdead]; decide), if_pos hm, hth]; rfl
      rw [e1]
      rw [hdead] at h4
      have hc := has_any h a ((l.length / 64 : Nat) : Int) ha
      rw [hth] at hc
      rw [← hn] at hs hc hm hl
      obtain ⟨m, hmm⟩ : ∃ m, m = n / 64 := ⟨_, rfl⟩
      rw [← hmm] at hc
      have hm0 : ((n : Int) % 64 != 0) = false := by simp; omega
      have hq : (n : Int) / 64 = (m : Int) := by omega
      clear hmm hm
      have HC := Lib.hid hc
      clear hdead hno h hth hc e1 hn
      go_enter Tryz.func62, Tryz.ntmps62
      go_wp2_with (go_at_call 96; refine HC.out.mono ?_; rintro e w' ⟨rfl, rfl⟩)
      go_ret
      exact ⟨rfl, rfl⟩
    · have e1 : Dm.write st a l = (st, 1) := by unfold Dm.write; rw [if_neg (by rw [hdead]; decide), if_neg hm]
      rw [e1]
      rw [hdead] at h4
      rw [← hn] at hs hm hl
      have hm0 : ((n : Int) % 64 != 0) = true := by simp; omega
      clear hdead hno h e1 hn
      go_enter Tryz.func62, Tryz.ntmps62
      go_wp2
      go_ret
      exact ⟨rfl, rfl⟩
theorem write_no_st {st : Dm.St} {a : Int} {l : List UInt8} (hno : st.dead = true ∨ l.length % 64 ≠ 0 ∨ Dm.thereB st a (l.length / 64 : Nat) = false) : (Dm.write st a l).1 = st := by
  unfold Dm.write
  split
  · rfl
  · split
    · split
      · rename_i h1 h2 h3
        rcases hno with h | h | h
        · exact absurd h h1
        · exact absurd h2 h
        · rw [h] at h3; cases h3
      · rfl
    · rfl
theorem puts_step {st : Dm.St} {k : Nat} {c : List UInt8} {cs : List (List UInt8)} (h : Dm.spendB st = true) : Dm.puts st k (c :: cs) = Dm.puts (Dm.put (Dm.spendS st) k c) (k + 1) cs := by
  show (if Dm.spendB st then _ else _) = _
  rw [if_pos h]
theorem puts_stop {st : Dm.St} {k : Nat} {c : List UInt8} {cs : List (List UInt8)} (h : Dm.spendB st = false) : Dm.puts st k (c :: cs) = (Dm.spendS st, 41) := by
  show (if Dm.spendB st then _ else _) = _
  rw [if_neg (by rw [h]; decide)]
theorem drop_chunks {l : List UInt8} {k : Nat} (h : k < l.length / 64) : (Dm.chunks l).drop k = ((l.drop (64 * k)).take 64) :: (Dm.chunks l).drop (k + 1) := by
  rw [List.drop_eq_getElem_cons (by rw [Dm.chunks_length]; exact h)]
  congr 1
  simp [Dm.chunks]
structure Mid (o : Ob) (st : Dm.St) (a : Nat) (cs : List (List UInt8)) (k : Nat) (w wr : World) (st' : Dm.St) (o' : Ob) : Prop where
  dk : Dk wr o' st'
  step : Step o o' w wr
  puts : Dm.puts st a cs = Dm.puts st' (a + k) (cs.drop k)
  S : st'.S = st.S
  P : st'.P.length ≤ st.P.length + k
theorem write_yes {w : World} {o : Ob} {st : Dm.St} (h : Dk w o st) (a : Nat) (l : List UInt8) (hdead : st.dead = false) (hm : l.length % 64 = 0) (hth : a + l.length / 64 ≤ st.S.length) (hP : st.P.length ≤ 549755813888) :
    Calls Tryz.prog 62 #[.pointer (some ⟨o.p, 0, none⟩), .int .i64 (a : Int), .string (Om.B l)] w fun e w' => e = .returned (.int .i64 (Dm.puts st a (Dm.chunks l)).2) ∧ Went o (Dm.puts st a (Dm.chunks l)).1 w w' := by
  obtain ⟨_, _, _, _, h4, _⟩ := h.reads
  have hs := Om.B_size l
  have hfew := h.ok.few
  have hc := has_any h (a : Int) ((l.length / 64 : Nat) : Int) (by omega)
  rw [(Dm.there_iff st a _).2 ⟨by omega, by omega, by omega⟩] at hc
  obtain ⟨n, hn⟩ : ∃ n, n = l.length := ⟨_, rfl⟩
  obtain ⟨m, hmm⟩ : ∃ m, m = n / 64 := ⟨_, rfl⟩
  rw [hdead] at h4
  rw [← hn] at hs hc hm hth
  rw [← hmm] at hc hth
  have hm0 : ((n : Int) % 64 != 0) = false := by simp; omega
  have hq : (n : Int) / 64 = (m : Int) := by omega
  have hnm : n = 64 * m := by omega
  have hcl : (Dm.chunks l).length = m := by rw [Dm.chunks_length, ← hn, hmm]
  have HC := Lib.hid hc
  have H := Lib.hid h
  have HN := Lib.hid hn
  have HNM := Lib.hid hnm
  have HCL := Lib.hid hcl
  have HM : m ≤ 1048576 := by omega
  have HNb : n ≤ 67108864 := by omega
  clear hdead h hc hn hmm hnm hcl hm
  go_enter Tryz.func62, Tryz.ntmps62
  go_wp2_with (go_at_call 96; refine HC.out.mono ?_; rintro e w' ⟨rfl, rfl⟩)
  go_loopw [32] (fun i wr => ∃ (k : Nat) (st' : Dm.St) (o' : Ob), k ≤ m ∧ i = .int .i64 k ∧ Hid (Mid o st a (Dm.chunks l) k w wr st' o')) (fun i _ => m - (Go.RowKit.intOf i).toNat)
  case atStart => exact ⟨0, st, o, Nat.zero_le _, rfl, Lib.hid ⟨H.out, Step.refl _ _, rfl, rfl, Nat.le_refl _⟩⟩
  case round =>
    obtain ⟨k, st', o', hk, rfl, hmid⟩ := hrel
    clear HC h4
    by_cases hlt : k < m
    · obtain ⟨K, hK⟩ : ∃ K, K = 64 * k := ⟨_, rfl⟩
      have hKN : K + 64 ≤ n := by have := HNM.out; omega
      have hki : IntKind.i64.wrap ((k : Int) * 64) = (K : Int) := by rw [IntWalk.i64_in _ (by omega)]; omega
      have hks : IntKind.i64.wrap ((a : Int) + (k : Int)) = ((a + k : Nat) : Int) := by rw [IntWalk.i64_in _ (by omega)]; omega
      have b1 : (K : Int) ≤ (n : Int) := by omega
      have b3 : K ≤ n := by omega
      have b4 : 64 ≤ n - K := by omega
      have hd : decide (k < m) = true := by simpa using hlt
      have hsp := spend_any hmid.out.dk
      rw [hmid.out.step.p] at hsp
      have HK := Lib.hid hK
      clear hK
      have hdrop := drop_chunks (l := l) (k := k) (by have := HN.out; have := HNM.out; omega)
      cases hb : Dm.spendB st' with
      | false =>
        rw [hb] at hsp
        have HSP := Lib.hid hsp
        have HB := Lib.hid hb
        have HD := Lib.hid hdrop
        clear hsp hb hdrop
        go_wp2_with (go_at_call 41; refine HSP.out.mono ?_; rintro e w' ⟨rfl, hw'⟩; have HW := Lib.hid hw'; clear hw')
        go_ret
        have e1 : Dm.puts st a (Dm.chunks l) = (Dm.spendS st', 41) := by rw [hmid.out.puts, HD.out, puts_stop HB.out]
        rw [e1]
        exact ⟨rfl, Went.trans hmid.out.step HW.out⟩
      | true =>
        rw [hb] at hsp
        have HSP := Lib.hid hsp
        have HB := Lib.hid hb
        have HD := Lib.hid hdrop
        clear hsp hb hdrop
        go_wp2_with fail
        refine HSP.out.mono ?_
        rintro e w1 ⟨rfl, o1, hd1, hs1⟩
        have hst := hmid.out.step.trans hs1
        have hS1 : (Dm.spendS st').S = st.S := (Dm.spendS_S st').trans hmid.out.S
        have hP1 : (Dm.spendS st').P.length ≤ st.P.length + k := by rw [Dm.spendS_P]; exact hmid.out.P
        have hlen : ((l.drop (64 * k)).take 64).length = 64 := by
          rw [List.length_take, List.length_drop, ← HN.out, ← HK.out]; omega
        have hput := put_any hd1 (a + k) ((l.drop (64 * k)).take 64) (by rw [hS1]; omega) hlen (by omega)
        rw [hst.p] at hput
        have HPUT := Lib.hid hput
        have HST := Lib.hid hst
        have HS1 := Lib.hid hS1
        have HP1 := Lib.hid hP1
        have hx1 : (Om.B l).extract K n = Om.B (l.drop (64 * k)) := by
          rw [← HK.out]
          have := Om.extract_end (Om.B l) K
          rw [Om.L_B, Om.B_size, ← HN.out] at this
          exact this
        have hx0 : (Om.B (l.drop (64 * k))).size = n - K := by rw [Om.B_size, List.length_drop, ← HN.out, ← HK.out]
        have hx2 : (Om.B (l.drop (64 * k))).extract 0 64 = Om.B ((l.drop (64 * k)).take 64) := by
          have := Om.extract_front (Om.B (l.drop (64 * k))) 64
          rw [Om.L_B] at this
          exact this
        clear hd1 hs1 hst hS1 hP1 hlen hput
        go_wp2_with fail
        refine HPUT.out.mono ?_
        rintro e w2 ⟨rfl, o2, hd2, hs2⟩
        have HD2 := Lib.hid hd2
        have HS2 := Lib.hid hs2
        clear hd2 hs2 hx0 hx1 hx2
        go_wp2
        go_roundw
        case rel =>
          refine ⟨k + 1, _, o2, by omega, by go_num, Lib.hid ⟨HD2.out, HST.out.trans HS2.out, ?_, HS1.out, ?_⟩⟩
          · rw [hmid.out.puts, HD.out, puts_step HB.out]; rfl
          · show ((Dm.spendS st').P ++ _).length ≤ _
            rw [List.length_append]
            have := HP1.out
            simp
            omega
        case measure => simp [Go.RowKit.intOf]; omega
    · obtain rfl : k = m := by omega
      have hd : decide (k < k) = false := by simp
      go_wp2
      go_ret
      have e1 : Dm.puts st a (Dm.chunks l) = (st', 0) := by rw [hmid.out.puts, List.drop_of_length_le (by rw [HCL.out]; omega)]; rfl
      rw [e1]
      exact ⟨rfl, o', hmid.out.dk, hmid.out.step⟩
theorem write_any {w : World} {o : Ob} {st : Dm.St} (h : Dk w o st) (a : Int) (l : List UInt8) (ha : a ≤ 9223372036854775807) (hl : l.length ≤ 140737488355328) (hP : st.P.length ≤ 549755813888) :
    Calls Tryz.prog 62 #[.pointer (some ⟨o.p, 0, none⟩), .int .i64 a, .string (Om.B l)] w fun e w' => e = .returned (.int .i64 (Dm.write st a l).2) ∧ Went o (Dm.write st a l).1 w w' := by
  by_cases hno : st.dead = true ∨ l.length % 64 ≠ 0 ∨ Dm.thereB st a (l.length / 64 : Nat) = false
  · refine (write_no h a l ha hl hno).mono ?_
    rintro e w' ⟨he, rfl⟩
    exact ⟨he, by rw [write_no_st hno]; exact Went.refl h⟩
  · have h1 : st.dead = false := by cases hd : st.dead with | true => exact absurd (.inl hd) hno | false => rfl
    have h2 : l.length % 64 = 0 := Classical.byContradiction fun c => hno (.inr (.inl c))
    have h3 : Dm.thereB st a (l.length / 64 : Nat) = true := by
      cases hd : Dm.thereB st a (l.length / 64 : Nat) with
      | true => rfl
      | false => exact absurd (.inr (.inr hd)) hno
    obtain ⟨c1, c2, c3⟩ := (Dm.there_iff _ _ _).1 h3
    obtain ⟨b, rfl⟩ : ∃ b : Nat, a = (b : Int) := ⟨a.toNat, by omega⟩
    have e1 : Dm.write st (b : Int) l = Dm.puts st b (Dm.chunks l) := by
      unfold Dm.write
      rw [if_neg (by rw [h1]; decide), if_pos h2, if_pos h3, Int.toNat_natCast]
    rw [e1]
    exact write_yes h b l h1 h2 (by omega) hP
theorem read_any {w : World} {o : Ob} {st : Dm.St} (h : Dk w o st) (a n : Int) (ha : a ≤ 9223372036854775807) (hP : st.P.length ≤ 1099511627776) :
    Calls Tryz.prog 56 #[.pointer (some ⟨o.p, 0, none⟩), .int .i64 a, .int .i64 n] w fun e w' => e = .returned (.tuple #[.string (Om.B (Dm.readS st a n)), .int .i64 (Dm.readE st a n)]) ∧ Below w.heap.size w w' := by
  by_cases hno : st.dead = true ∨ Dm.thereB st a n = false
  · refine (read_no h a n ha hno).mono ?_
    rintro e w' ⟨he, rfl⟩
    exact ⟨he, Below.refl _ _⟩
  · have h1 : st.dead = false := by cases hd : st.dead with | true => exact absurd (.inl hd) hno | false => rfl
    have h3 : Dm.thereB st a n = true := by
      cases hd : Dm.thereB st a n with
      | true => rfl
      | false => exact absurd (.inr hd) hno
    obtain ⟨c1, c2, c3⟩ := (Dm.there_iff _ _ _).1 h3
    have e1 : Dm.readS st a n = Dm.span st a.toNat n.toNat := by unfold Dm.readS; rw [if_neg (by rw [h1]; decide), if_pos h3]
    have e2 : Dm.readE st a n = 0 := by unfold Dm.readE; rw [if_neg (by rw [h1]; decide), if_pos h3]
    rw [e1, e2]
    obtain ⟨b, rfl⟩ : ∃ b : Nat, a = (b : Int) := ⟨a.toNat, by omega⟩
    obtain ⟨m, rfl⟩ : ∃ m : Nat, n = (m : Int) := ⟨n.toNat, by omega⟩
    rw [Int.toNat_natCast, Int.toNat_natCast]
    exact read_yes h b m h1 (by omega) hP
end Dsk
end Go.Proofs.YtbmabcddciibfaaGreat
namespace Go.Proofs.YtbmabcddciibfaaGreat
namespace Dsk
open Go.RowKit
set_option maxRecDepth 100000
set_option linter.unusedVariables false
theorem settle_snoc (S : List (List UInt8)) (P : List (Nat × List UInt8)) (x : Nat × List UInt8) (keep : List Bool) :
    Dm.settle S (P ++ [x]) keep = if keep.getD P.length false then (Dm.settle S P keep).set x.1 x.2 else Dm.settle S P keep := by
  induction P generalizing S keep with
  | nil => cases keep <;> simp [Dm.settle]
  | cons y P ih =>
    show Dm.settle _ (P ++ [x]) keep.tail = _
    rw [ih]
    cases keep <;> simp [Dm.settle]
theorem take_snoc' {P : List (Nat × List UInt8)} {k : Nat} (h : k < P.length) : P.take (k + 1) = P.take k ++ [P[k]] := by rw [List.take_succ_eq_append_getElem h]
theorem settle_take {S : List (List UInt8)} {P : List (Nat × List UInt8)} {k : Nat} (h : k < P.length) (keep : List Bool) :
    Dm.settle S (P.take (k + 1)) keep = if keep.getD k false then (Dm.settle S (P.take k) keep).set P[k].1 P[k].2 else Dm.settle S (P.take k) keep := by
  rw [take_snoc' h, settle_snoc, List.length_take, Nat.min_eq_left (by omega)]
theorem all_get {P : List (Nat × List UInt8)} {k : Nat} (h : k < P.length) : (Dm.all P).getD k false = true := by simp [Dm.all, h]
theorem Dk.pair {w : World} {o : Ob} {st : Dm.St} (h : Dk w o st) {pa : Option Addr} {n pc : Nat} (hv : o.pv = .slice pa n pc) {k : Nat} (hk : k < st.P.length) :
    ∃ g, pa = some ⟨g, 0, none⟩ ∧ w.cell? ⟨g, k * 2, none⟩ = some (.int .i64 (st.P[k].1 : Int)) ∧ w.cell? ⟨g, k * 2 + 1, none⟩ = some (.string (Om.B st.P[k].2)) := by
  have hown := h.pend
  rcases hown.2 with ⟨_, hz⟩ | ⟨g, cap, cc, hv2, _⟩
  · omega
  · have hv3 := hv.symm.trans hv2
    injection hv3 with h1 h2 h3
    subst h1
    rw [hv2] at hown
    obtain ⟨c1, c2⟩ := wcells_get st.P k hk
    refine ⟨g, rfl, ?_, ?_⟩
    · rw [hown.cellAt (k * 2) (by omega), Nat.mul_comm]; exact c1
    · rw [hown.cellAt (k * 2 + 1) (by omega), Nat.mul_comm]; exact c2
structure Set (o : Ob) (st : Dm.St) (keep : List Bool) (k : Nat) (w wr : World) : Prop where
  dk : Dk wr o { st with S := Dm.settle st.S (st.P.take k) keep }
  step : Step o o w wr
theorem flush_no {w : World} {o : Ob} {st : Dm.St} (h : Dk w o st) (hno : Dm.spendB st = false) :
    Calls Tryz.prog 9 #[.pointer (some ⟨o.p, 0, none⟩)] w fun e w' => e = .returned (.int .i64 (Dm.flush st).2) ∧ Went o (Dm.flush st).1 w w' := by
  have e1 : Dm.flush st = (Dm.spendS st, 41) := by unfold Dm.flush; rw [if_neg (by rw [hno]; decide)]
  rw [e1]
  have hsp := spend_any h
  rw [hno] at hsp
  have HSP := Lib.hid hsp
  clear hsp hno e1 h
  go_enter Tryz.func9, Tryz.ntmps9
  go_wp2_with (go_at_call 41; refine HSP.out.mono ?_; rintro e w' ⟨rfl, hw'⟩; have HW := Lib.hid hw'; clear hw')
  go_ret
  exact ⟨rfl, HW.out⟩
theorem flush_yes {w : World} {o : Ob} {st : Dm.St} (h : Dk w o st) (hyes : Dm.spendB st = true) (hP : st.P.length ≤ 1099511627776) :
    Calls Tryz.prog 9 #[.pointer (some ⟨o.p, 0, none⟩)] w fun e w' => e = .returned (.int .i64 (Dm.flush st).2) ∧ Went o (Dm.flush st).1 w w' := by
  have e1 : Dm.flush st = (⟨Dm.settle st.S st.P (Dm.all st.P), [], (Dm.spendS st).fuse, (Dm.spendS st).dead⟩, 0) := by unfold Dm.flush; rw [if_pos hyes]
  rw [e1]
  have hsp := spend_any h
  rw [hyes] at hsp
  have hSS := Dm.spendS_S st
  have hPP := Dm.spendS_P st
  obtain ⟨st1, hst1⟩ : ∃ s, s = Dm.spendS st := ⟨_, rfl⟩
  rw [← hst1] at hsp hSS hPP ⊢
  rw [← hSS, ← hPP]
  rw [← hPP] at hP
  have HSP := Lib.hid hsp
  clear hsp hyes e1 h hSS hPP hst1
  go_enter Tryz.func9, Tryz.ntmps9
  go_wp2_with fail
  refine HSP.out.mono ?_
  rintro e w1 ⟨rfl, o1, hd1, hs1⟩
  have hp1 := hs1.p
  obtain ⟨_, h1, _, _, _, _⟩ := hd1.reads
  obtain ⟨pa, pc, hpv⟩ := own_slice hd1.pend
  rw [hp1, hpv] at h1
  obtain ⟨n, hn⟩ : ∃ n, n = st1.P.length := ⟨_, rfl⟩
  rw [← hn] at hpv h1 hP
  have HD1 := Lib.hid hd1
  have HS1 := Lib.hid hs1
  have HPV := Lib.hid hpv
  have HN := Lib.hid hn
  have HP1 := Lib.hid hp1
  clear HSP hd1 hs1 hpv hn hp1
  go_wp2
  go_loopw [15] (fun i wr => ∃ k : Nat, k ≤ n ∧ i = .int .i64 k ∧ Hid (Set o1 st1 (Dm.all st1.P) k w1 wr)) (fun i _ => n - (Go.RowKit.intOf i).toNat)
  case atStart => exact ⟨0, Nat.zero_le _, rfl, Lib.hid ⟨HD1.out, Step.refl _ _⟩⟩
  case round =>
    obtain ⟨k, hk, rfl, hset⟩ := hrel
    clear h1
    by_cases hlt : k < n
    · have hd : decide (k < n) = true := by simpa using hlt
      have hkk : k < st1.P.length := by rw [← HN.out]; exact hlt
      obtain ⟨g, rfl, c1, c2⟩ := hset.out.dk.pair HPV.out (k := k) hkk
      have hw := HD1.out.ok.writes _ (List.getElem_mem hkk)
      have hstep := settle_take (S := st1.S) hkk (Dm.all st1.P)
      rw [all_get hkk, if_pos rfl] at hstep
      obtain ⟨x, hx⟩ : ∃ x, x = st1.P[k] := ⟨_, rfl⟩
      have c1' : wr.cell? ⟨g, k * 2, none⟩ = some (.int .i64 (x.1 : Int)) := by rw [hx]; exact c1
      have c2' : wr.cell? ⟨g, k * 2 + 1, none⟩ = some (.string (Om.B x.2)) := by rw [hx]; exact c2
      rw [← hx] at hstep hw
      have HSTEP := Lib.hid hstep
      have HW := Lib.hid hw
      clear c1 c2 hstep hw hx
      go_wp2_with fail
      have hbel : Below wr.heap.size wr (wr.alloc (.cells #[.int .i64 (x.1 : Int), .string (Om.B x.2)] 100)) := (Below.refl _ _).alloc (Nat.le_refl _) _
      have hcall := settle_any (hset.out.dk.below hbel) x.1 x.2 (by show x.1 < (Dm.settle _ _ _).length; rw [Dm.settle_length]; exact HW.out.1) HW.out.2
      rw [HP1.out] at hcall
      refine hcall.mono ?_
      rintro e w2 ⟨rfl, hd2, hs2⟩
      have HD2 := Lib.hid hd2
      have HS2 := Lib.hid hs2
      have HBEL := Lib.hid hbel
      clear hd2 hs2 hbel hcall
      go_wp2
      go_roundw
      case rel =>
        refine ⟨k + 1, by omega, by go_num, Lib.hid ⟨?_, hset.out.step.trans ((Step.of_below HBEL.out).trans HS2.out)⟩⟩
        rw [HSTEP.out]
        exact HD2.out
      case measure => simp [Go.RowKit.intOf]; omega
    · obtain rfl : k = n := by omega
      have hd : decide (k < k) = false := by simp
      have hcall := forget_any hset.out.dk
      rw [HP1.out] at hcall
      have HCALL := Lib.hid hcall
      clear hcall
      go_wp2_with fail
      refine HCALL.out.mono ?_
      rintro e w2 ⟨rfl, hwent⟩
      have HW := Lib.hid hwent
      clear hwent
      go_wp2
      go_ret
      refine ⟨rfl, ?_⟩
      have hw := Went.trans (HS1.out.trans hset.out.step) HW.out
      rw [HN.out, List.take_length] at hw
      exact hw
theorem flush_any {w : World} {o : Ob} {st : Dm.St} (h : Dk w o st) (hP : st.P.length ≤ 1099511627776) :
    Calls Tryz.prog 9 #[.pointer (some ⟨o.p, 0, none⟩)] w fun e w' => e = .returned (.int .i64 (Dm.flush st).2) ∧ Went o (Dm.flush st).1 w w' := by
  cases hb : Dm.spendB st with
  | true => exact flush_yes h hb hP
  | false => exact flush_no h hb
def Kept (w : World) (F : Nat → Prop) (a : Option Addr) (ks : List Bool) : Prop :=
  0 < ks.length → ∃ b off, a = some ⟨b, off, none⟩ ∧ ¬ F b ∧ b < w.heap.size ∧ ∀ i, i < ks.length → w.cell? ⟨b, off + i, none⟩ = some (.bool (ks.getD i false))
theorem Kept.fr {w w' : World} {F G : Nat → Prop} {a : Option Addr} {ks : List Bool} (h : Kept w F a ks) (hf : Fr G w w') (hg : ∀ i, i < w.heap.size → G i → F i) : Kept w' F a ks := fun hn => by
  obtain ⟨b, off, e, hF, hb, hc⟩ := h hn
  refine ⟨b, off, e, hF, Nat.lt_of_lt_of_le hb hf.size, fun i hi => ?_⟩
  rw [← hc i hi]
  exact World.cell?_of_block (w := w) (a := ⟨b, off + i, none⟩) (hf.block b hb (fun c => hF (hg b hb c)))
theorem Kept.none (w : World) (F : Nat → Prop) (a : Option Addr) : Kept w F a [] := fun h => absurd h (by simp)
theorem restart_any {w : World} {o : Ob} {st : Dm.St} (h : Dk w o st) (hP : st.P.length ≤ 1099511627776) (ks : List Bool) (ka : Option Addr) (kc : Nat) (hks : ks.length ≤ 140737488355328) (hk : Kept w o.fp ka ks) :
    Calls Tryz.prog 12 #[.pointer (some ⟨o.p, 0, none⟩), .slice ka ks.length kc] w fun e w' => e = .returned (.tuple #[]) ∧ Went o (Dm.restart st ks) w w' := by
  obtain ⟨_, h1, _, _, _, _⟩ := h.reads
  obtain ⟨pa, pc, hpv⟩ := own_slice h.pend
  rw [hpv] at h1
  obtain ⟨n, hn⟩ : ∃ n, n = st.P.length := ⟨_, rfl⟩
  obtain ⟨m, hm⟩ : ∃ m, m = ks.length := ⟨_, rfl⟩
  rw [← hn] at hpv h1 hP
  rw [← hm] at hks ⊢
  have HD1 := Lib.hid h
  have HPV := Lib.hid hpv
  have HN := Lib.hid hn
  have HM := Lib.hid hm
  have HK := Lib.hid hk
  clear h hpv hn hm hk
  go_enter Tryz.func12, Tryz.ntmps12
  go_wp2
  go_loopw [13] (fun i wr => ∃ k : Nat, k ≤ n ∧ i = .int .i64 k ∧ Hid (Set o st ks k w wr)) (fun i _ => n - (Go.RowKit.intOf i).toNat)
  case atStart => exact ⟨0, Nat.zero_le _, rfl, Lib.hid ⟨HD1.out, Step.refl _ _⟩⟩
  case round =>
    obtain ⟨k, hk, rfl, hset⟩ := hrel
    clear h1
    by_cases hlt : k < n
    · have hd : decide (k < n) = true := by simpa using hlt
      have hkk : k < st.P.length := by rw [← HN.out]; exact hlt
      obtain ⟨g, rfl, c1, c2⟩ := hset.out.dk.pair HPV.out (k := k) hkk
      have hw := HD1.out.ok.writes _ (List.getElem_mem hkk)
      have hstep := settle_take (S := st.S) hkk ks
      obtain ⟨x, hx⟩ : ∃ x, x = st.P[k] := ⟨_, rfl⟩
      have c1' : wr.cell? ⟨g, k * 2, none⟩ = some (.int .i64 (x.1 : Int)) := by rw [hx]; exact c1
      have c2' : wr.cell? ⟨g, k * 2 + 1, none⟩ = some (.string (Om.B x.2)) := by rw [hx]; exact c2
      rw [← hx] at hstep hw
      have HW := Lib.hid hw
      clear c1 c2 hw hx
      have hbel : Below wr.heap.size wr (wr.alloc (.cells #[.int .i64 (x.1 : Int), .string (Om.B x.2)] 100)) := (Below.refl _ _).alloc (Nat.le_refl _) _
      have HBEL := Lib.hid hbel
      clear hbel
      by_cases hkm : k < m
      · have hdm : decide (k < m) = true := by simpa using hkm
        obtain ⟨kb, koff, rfl, hkF, hkb, hcell⟩ := (HK.out.fr hset.out.step.fr (fun _ _ h => h)) (by rw [← HM.out]; omega)
        have hc := hcell k (by rw [← HM.out]; exact hkm)
        cases hval : ks.getD k false with
        | true =>
          rw [hval] at hc
          rw [hval, if_pos rfl] at hstep
          have HSTEP := Lib.hid hstep
          clear hstep hval hcell hkF
          go_wp2_with fail
          have hcall := settle_any (hset.out.dk.below HBEL.out) x.1 x.2 (by show x.1 < (Dm.settle _ _ _).length; rw [Dm.settle_length]; exact HW.out.1) HW.out.2
          refine hcall.mono ?_
          rintro e w2 ⟨rfl, hd2, hs2⟩
          have HD2 := Lib.hid hd2
          have HS2 := Lib.hid hs2
          clear hd2 hs2 hcall
          go_wp2
          go_roundw
          case rel =>
            refine ⟨k + 1, by omega, by go_num, Lib.hid ⟨?_, hset.out.step.trans ((Step.of_below HBEL.out).trans HS2.out)⟩⟩
            rw [HSTEP.out]
            exact HD2.out
          case measure => simp [Go.RowKit.intOf]; omega
        | false =>
          rw [hval] at hc
          rw [hval, if_neg (by decide)] at hstep
          have HSTEP := Lib.hid hstep
          clear hstep hval hcell hkF
          go_wp2
          go_roundw
          case rel =>
            refine ⟨k + 1, by omega, by go_num, Lib.hid ⟨?_, hset.out.step.trans (Step.of_below HBEL.out)⟩⟩
            rw [HSTEP.out]
            exact hset.out.dk.below HBEL.out
          case measure => simp [Go.RowKit.intOf]; omega
      · have hdm : decide (k < m) = false := by simpa using hkm
        have hval : ks.getD k false = false := by
          rw [List.getD_eq_getElem?_getD, List.getElem?_eq_none (by rw [← HM.out]; omega)]; rfl
        rw [hval, if_neg (by decide)] at hstep
        have HSTEP := Lib.hid hstep
        clear hstep hval
        go_wp2
        go_roundw
        case rel =>
          refine ⟨k + 1, by omega, by go_num, Lib.hid ⟨?_, hset.out.step.trans (Step.of_below HBEL.out)⟩⟩
          rw [HSTEP.out]
          exact hset.out.dk.below HBEL.out
        case measure => simp [Go.RowKit.intOf]; omega
    · obtain rfl : k = n := by omega
      have hd : decide (k < k) = false := by simp
      have hcall := forget_any hset.out.dk
      have HCALL := Lib.hid hcall
      clear hcall
      go_wp2_with fail
      refine HCALL.out.mono ?_
      rintro e w2 ⟨rfl, o2, hd2, hs2⟩
      obtain ⟨_, _, _, g3, g4, hf⟩ := hd2.reads
      have hf3 := hf 3
      have hf4 := hf 4
      have hp2 := hs2.p
      rw [hp2] at g3 g4 hf3 hf4
      have HP2 := Lib.hid hp2
      have HD2 := Lib.hid hd2
      have HS2 := Lib.hid hs2
      clear hd2 hs2 hf hp2
      go_wp2
      go_end0
      refine ⟨rfl, ?_⟩
      have hw : Went o2 (Dm.restart st ks) w2 ((w2.setCell ⟨o2.p, 3, none⟩ (.int .i64 (-1))).setCell ⟨o2.p, 4, none⟩ (.bool false)) := by
        have hd3 := (HD2.out.setFuse (-1) (by omega) (by omega)).setDead false
        refine ⟨_, ?_, (step_head o2 { o2 with f := -1 } w2 3 _ (fun _ h => h) rfl).trans (step_head { o2 with f := -1 } { o2 with f := -1 } _ 4 _ (fun _ h => h) rfl)⟩
        rw [HN.out, List.take_length] at hd3
        exact hd3
      rw [HP2.out] at hw
      exact Went.trans (hset.out.step.trans HS2.out) hw
end Dsk
end Go.Proofs.YtbmabcddciibfaaGreat
namespace Go.Proofs.YtbmabcddciibfaaGreat
namespace Dsk
open Go.RowKit
set_option linter.unusedVariables false
structure Ro where
  p : Nat
  sv : Value
  pv : Value
def Ro.fp (r : Ro) (k : Nat) : Prop := k = r.p ∨ r.sv.ownBlock = some k ∨ r.pv.ownBlock = some k
def Ro.cells (r : Ro) (f : Int) (dead : Bool) : Array Value := #[r.sv, r.pv, .int .i64 f, .bool dead]
def scells (S : List (List UInt8)) : List Value := S.map fun x => .string (Om.B x)
theorem scells_get {S : List (List UInt8)} {k : Nat} (h : k < S.length) : (scells S)[k]? = some (.string (Om.B (S.getD k []))) := by
  simp [scells, h]
theorem scells_snoc (S : List (List UInt8)) (x : List UInt8) : scells (S ++ [x]) = scells S ++ [.string (Om.B x)] := by simp [scells]
theorem scells_set (S : List (List UInt8)) (k : Nat) (x : List UInt8) : scells (S.set k x) = (scells S).set k (.string (Om.B x)) := by simp [scells]
structure Rk (w : World) (r : Ro) (st : Dm.St) : Prop where
  ok : Dm.Ok st
  head : w.heap[r.p]? = some (.cells (r.cells st.fuse st.dead) 162 (0, 0))
  stands : w.ownsRow 0 9 1 r.sv st.S.length (scells st.S)
  pend : w.ownsRow 0 274 2 r.pv st.P.length (wcells st.P)
  high : st.fuse ≤ 9223372036854775807
theorem Rk.lt {w : World} {r : Ro} {st : Dm.St} (h : Rk w r st) (k : Nat) (hk : r.fp k) : k < w.heap.size := by
  rcases hk with rfl | hk | hk
  · exact lt_of_heap h.head
  · obtain ⟨cur, hc⟩ := own_block h.stands k hk; exact lt_of_heap hc
  · obtain ⟨cur, hc⟩ := own_block h.pend k hk; exact lt_of_heap hc
theorem Rk.same {w w' : World} {r : Ro} {st : Dm.St} (h : Rk w r st) (hb : ∀ k, r.fp k → w'.heap[k]? = w.heap[k]?) : Rk w' r st :=
  ⟨h.ok, (hb _ (.inl rfl)).trans h.head, own_same h.stands fun k hk => hb k (.inr (.inl hk)), own_same h.pend fun k hk => hb k (.inr (.inr hk)), h.high⟩
theorem Rk.keep {w w' : World} {r : Ro} {st : Dm.St} {F : Nat → Prop} (h : Rk w r st) (hf : Fr F w w') (hd : ∀ k, r.fp k → ¬ F k) : Rk w' r st := h.same fun k hk => hf.block k (h.lt k hk) (hd k hk)
theorem Rk.below {w w' : World} {r : Ro} {st : Dm.St} (h : Rk w r st) (hb : Below w.heap.size w w') : Rk w' r st := h.same fun k hk => hb.block k (h.lt k hk)
theorem Rk.apart {w : World} {r : Ro} {st : Dm.St} (h : Rk w r st) : (∀ k, r.sv.ownBlock = some k → k ≠ r.p) ∧ (∀ k, r.pv.ownBlock = some k → k ≠ r.p) ∧ (∀ k, r.sv.ownBlock = some k → r.pv.ownBlock ≠ some k) := by
  have h1 := h.head
  refine ⟨fun k hk e => ?_, fun k hk e => ?_, fun k hk e => ?_⟩
  · obtain ⟨cur, hc⟩ := own_block h.stands k hk; rw [e, h1] at hc; injection hc with hc; injection hc with _ hc; cases hc
  · obtain ⟨cur, hc⟩ := own_block h.pend k hk; rw [e, h1] at hc; injection hc with hc; injection hc with _ hc; cases hc
  · obtain ⟨cur, hc⟩ := own_block h.stands k hk
    obtain ⟨cur', hc'⟩ := own_block h.pend k e
    rw [hc] at hc'; injection hc' with hc'; injection hc' with _ hc'; cases hc'
theorem Rk.reads {w : World} {r : Ro} {st : Dm.St} (h : Rk w r st) :
    w.cell? ⟨r.p, 0, none⟩ = some r.sv ∧ w.cell? ⟨r.p, 1, none⟩ = some r.pv ∧ w.cell? ⟨r.p, 2, none⟩ = some (.int .i64 st.fuse) ∧ w.cell? ⟨r.p, 3, none⟩ = some (.bool st.dead) ∧ ∀ j, w.frozen? ⟨r.p, j, none⟩ = false := by
  refine ⟨?_, ?_, ?_, ?_, fun j => frozen_of_row _ _ _ _ _ h.head⟩ <;> (rw [cell_of_row _ _ _ _ _ _ h.head]; rfl)
structure RStep (r r' : Ro) (w w' : World) : Prop where
  fr : Fr r.fp w w'
  fp : ∀ k, r'.fp k → r.fp k ∨ w.heap.size ≤ k
  p : r'.p = r.p
theorem RStep.refl (r : Ro) (w : World) : RStep r r w w := ⟨Fr.refl _ _, fun _ h => .inl h, rfl⟩
theorem RStep.trans {a b c : Ro} {u v w : World} (h : RStep a b u v) (k : RStep b c v w) : RStep a c u w := by
  refine ⟨h.fr.trans k.fr fun i hi hb => ?_, fun i hi => ?_, k.p.trans h.p⟩
  · rcases h.fp i hb with h1 | h1
    · exact h1
    · omega
  · rcases k.fp i hi with h1 | h1
    · exact h.fp i h1
    · exact .inr (Nat.le_trans h.fr.size h1)
def RWent (r : Ro) (st : Dm.St) (w w' : World) : Prop := ∃ r', Rk w' r' st ∧ RStep r r' w w'
theorem RWent.refl {r : Ro} {st : Dm.St} {w : World} (h : Rk w r st) : RWent r st w w := ⟨r, h, RStep.refl _ _⟩
theorem RWent.trans {r : Ro} {st : Dm.St} {w w1 w2 : World} {r1 : Ro} (h1 : RStep r r1 w w1) (h : RWent r1 st w1 w2) : RWent r st w w2 := by
  obtain ⟨r2, hd, hs⟩ := h
  exact ⟨r2, hd, h1.trans hs⟩
theorem Rk.setFuse {w : World} {r : Ro} {st : Dm.St} (h : Rk w r st) (f : Int) (hl : -1 ≤ f) (hh : f ≤ 9223372036854775807) : Rk (w.setCell ⟨r.p, 2, none⟩ (.int .i64 f)) r { st with fuse := f } := by
  obtain ⟨a1, a2, _⟩ := h.apart
  refine ⟨⟨h.ok.sectors, h.ok.writes, hl, h.ok.few⟩, ?_, own_same h.stands fun k hk => Below.heap_setCell _ _ _ _ (a1 k hk), own_same h.pend fun k hk => Below.heap_setCell _ _ _ _ (a2 k hk), hh⟩
  rw [heap_setCell_same _ _ _ _ _ _ h.head]; rfl
theorem Rk.setDead {w : World} {r : Ro} {st : Dm.St} (h : Rk w r st) (b : Bool) : Rk (w.setCell ⟨r.p, 3, none⟩ (.bool b)) r { st with dead := b } := by
  obtain ⟨a1, a2, _⟩ := h.apart
  refine ⟨⟨h.ok.sectors, h.ok.writes, h.ok.fuse, h.ok.few⟩, ?_, own_same h.stands fun k hk => Below.heap_setCell _ _ _ _ (a1 k hk), own_same h.pend fun k hk => Below.heap_setCell _ _ _ _ (a2 k hk), h.high⟩
  rw [heap_setCell_same _ _ _ _ _ _ h.head]; rfl
theorem Rk.setNone {w : World} {r : Ro} {st : Dm.St} (h : Rk w r st) : Rk (w.setCell ⟨r.p, 1, none⟩ (.slice none 0 0)) { r with pv := .slice none 0 0 } { st with P := [] } := by
  obtain ⟨a1, a2, _⟩ := h.apart
  refine ⟨⟨h.ok.sectors, (fun x hx => by cases hx), h.ok.fuse, h.ok.few⟩, ?_, own_same h.stands fun k hk => Below.heap_setCell _ _ _ _ (a1 k hk), World.ownsRow_nil _ _ _ _, h.high⟩
  rw [heap_setCell_same _ _ _ _ _ _ h.head]; rfl
end Dsk
end Go.Proofs.YtbmabcddciibfaaGreat
namespace Go.Proofs.YtbmabcddciibfaaGreat
namespace Dsk
open Go.RowKit
set_option linter.unusedVariables false
theorem Rk.pair {w : World} {r : Ro} {st : Dm.St} (h : Rk w r st) {pa : Option Addr} {n pc : Nat} (hv : r.pv = .slice pa n pc) {k : Nat} (hk : k < st.P.length) :
    ∃ g, pa = some ⟨g, 0, none⟩ ∧ w.cell? ⟨g, k * 2, none⟩ = some (.int .i64 (st.P[k].1 : Int)) ∧ w.cell? ⟨g, k * 2 + 1, none⟩ = some (.string (Om.B st.P[k].2)) := by
  have hown := h.pend
  rcases hown.2 with ⟨_, hz⟩ | ⟨g, cap, cc, hv2, _⟩
  · omega
  · have hv3 := hv.symm.trans hv2
    injection hv3 with h1 h2 h3
    subst h1
    rw [hv2] at hown
    obtain ⟨c1, c2⟩ := wcells_get st.P k hk
    refine ⟨g, rfl, ?_, ?_⟩
    · rw [hown.cellAt (k * 2) (by omega), Nat.mul_comm]; exact c1
    · rw [hown.cellAt (k * 2 + 1) (by omega), Nat.mul_comm]; exact c2
theorem Rk.at {w : World} {r : Ro} {st : Dm.St} (h : Rk w r st) {sa : Option Addr} {n sc : Nat} (hv : r.sv = .slice sa n sc) {k : Nat} (hk : k < st.S.length) :
    ∃ g, sa = some ⟨g, 0, none⟩ ∧ r.sv.ownBlock = some g ∧ w.cell? ⟨g, k, none⟩ = some (.string (Om.B (st.S.getD k []))) ∧ w.frozen? ⟨g, k, none⟩ = false := by
  have hown := h.stands
  rcases hown.2 with ⟨_, hz⟩ | ⟨g, cap, cc, hv2, _⟩
  · omega
  · have hv3 := hv.symm.trans hv2
    injection hv3 with h1 h2 h3
    subst h1
    rw [hv2] at hown
    refine ⟨g, rfl, by rw [hv2]; rfl, ?_, hown.frozenAt k⟩
    rw [hown.cellAt k (by omega)]; exact scells_get hk
theorem flat_take {S : List (List UInt8)} {k : Nat} (h : k < S.length) : (S.take (k + 1)).flatten = (S.take k).flatten ++ S.getD k [] := by
  rw [List.take_succ_eq_append_getElem h, List.flatten_append]; simp [h]
theorem flat_len_le {S : List (List UInt8)} (h : ∀ x ∈ S, x.length = 64) (k : Nat) : (S.take k).flatten.length ≤ 64 * S.length := by
  rw [Dm.flat_length (fun x hx => h x (List.mem_of_mem_take hx)), List.length_take]; omega
theorem no_over (a b : List UInt8) (h : a.length + b.length < 4611686018427387904) : ¬ 9223372036854775807 < (Om.B a).size + (Om.B b).size := by
  rw [Om.B_size, Om.B_size]; omega
theorem rbytes_any {w : World} {r : Ro} {st : Dm.St} (h : Rk w r st) :
    Calls Tryz.prog 73 #[.pointer (some ⟨r.p, 0, none⟩)] w fun e w' => e = .returned (.string (Om.B st.S.flatten)) ∧ w = w' := by
  obtain ⟨h0, _⟩ := h.reads
  obtain ⟨sa, sc, hsv⟩ := own_slice h.stands
  rw [hsv] at h0
  have hfew := h.ok.few
  obtain ⟨m, hm⟩ : ∃ m, m = st.S.length := ⟨_, rfl⟩
  rw [← hm] at h0 hfew hsv
  have H := Lib.hid h
  have HSV := Lib.hid hsv
  have HM := Lib.hid hm
  clear h hsv hm
  go_enter Tryz.func73, Tryz.ntmps73
  go_wp2
  go_loop [3, 4] (fun s i => ∃ k : Nat, k ≤ m ∧ i = .int .i64 k ∧ s = .string (Om.B (st.S.take k).flatten)) (fun _ i => m - (Go.RowKit.intOf i).toNat)
  case atStart => exact ⟨0, Nat.zero_le _, rfl, rfl⟩
  case round =>
    obtain ⟨k, hk, rfl, rfl⟩ := hrel
    by_cases hlt : k < m
    · have hd : decide (k < m) = true := by simpa using hlt
      have hkk : k < st.S.length := by rw [← HM.out]; exact hlt
      obtain ⟨g', rfl, _, c1, _⟩ := H.out.at HSV.out (k := k) hkk
      have hf := flat_take hkk
      have hov := no_over (st.S.take k).flatten (st.S.getD k []) (by
        have := flat_len_le H.out.ok.sectors k
        have := H.out.ok.sectors _ (Dm.getD_mem hkk)
        rw [← HM.out] at *
        omega)
      have happ := Om.B_append (st.S.take k).flatten (st.S.getD k [])
      rw [← hf] at happ
      obtain ⟨x, hx⟩ : ∃ x, x = st.S.getD k [] := ⟨_, rfl⟩
      rw [← hx] at c1 hov happ
      clear hf hkk hx
      go_wp2
      go_round
      case rel => exact ⟨k + 1, by omega, by go_num, rfl⟩
      case measure => simp [Go.RowKit.intOf]; omega
    · obtain rfl : k = m := by omega
      have hd : decide (k < k) = false := by simp
      go_wp2
      go_ret
      refine ⟨?_, rfl⟩
      rw [HM.out, List.take_length]
      rfl
end Dsk
end Go.Proofs.YtbmabcddciibfaaGreat
namespace Go.Proofs.YtbmabcddciibfaaGreat
namespace Dsk
open Go.RowKit
set_option linter.unusedVariables false
structure RMid (r : Ro) (st : Dm.St) (a : Nat) (cs : List (List UInt8)) (k : Nat) (w wr : World) (st' : Dm.St) (r' : Ro) : Prop where
  dk : Rk wr r' st'
  dead : st'.dead = false
  step : RStep r r' w wr
  puts : Dm.puts st a cs = Dm.puts st' (a + k) (cs.drop k)
  S : st'.S = st.S
  P : st'.P.length ≤ st.P.length + k
theorem extract_mid (l : List UInt8) (a b : Nat) : (Om.B l).extract a b = Om.B ((l.drop a).take (b - a)) := by
  apply ByteArray.ext
  rw [ByteArray.data_extract]
  apply Array.ext'
  rw [Array.toList_extract, List.extract_eq_take_drop]
  rfl
structure RApp (r : Ro) (st : Dm.St) (x : Nat × List UInt8) (w w' : World) (v : Value) : Prop where
  os : w'.os = w.os
  tape : w'.tape = w.tape
  output : w'.output = w.output
  size : w.heap.size ≤ w'.heap.size
  block : ∀ k, k < w.heap.size → r.pv.ownBlock ≠ some k → w'.heap[k]? = w.heap[k]?
  own : w'.ownsRow 0 274 2 v (st.P.length + 1) (wcells (st.P ++ [x]))
  home : ∀ k, v.ownBlock = some k → r.pv.ownBlock = some k ∨ w.heap.size ≤ k
theorem RApp.head {r : Ro} {st : Dm.St} {x : Nat × List UInt8} {w w' : World} {v : Value} (h : RApp r st x w w' v) (hr : Rk w r st) : w'.heap[r.p]? = some (.cells (r.cells st.fuse st.dead) 162 (0, 0)) := by
  rw [h.block r.p (hr.lt _ (.inl rfl)) (fun e => (hr.apart.2.1 _ e) rfl)]; exact hr.head
theorem RApp.done {r : Ro} {st : Dm.St} {k : Nat} {l : List UInt8} {w w' : World} {v : Value} (h : RApp r st (k, l) w w' v) (hr : Rk w r st) (hk : k < st.S.length) (hl : l.length = 64) :
    Rk (w'.setCell ⟨r.p, 1, none⟩ v) { r with pv := v } (Dm.put st k l) ∧ RStep r { r with pv := v } w (w'.setCell ⟨r.p, 1, none⟩ v) := by
  have hh := h.head hr
  obtain ⟨a1, a2, a3⟩ := hr.apart
  have hvp : ∀ j, v.ownBlock = some j → j ≠ r.p := fun j hj e => by
    obtain ⟨cur, hc⟩ := own_block h.own j hj
    rw [e, hh] at hc; injection hc with hc; injection hc with _ hc; cases hc
  refine ⟨⟨Dm.put_ok hr.ok k l hk hl, ?_, ?_, ?_, hr.high⟩, ⟨?_, ?_, rfl⟩⟩
  · rw [heap_setCell_same _ _ _ _ _ _ hh]; rfl
  · refine own_same hr.stands fun j hj => ?_
    rw [Below.heap_setCell _ _ _ _ (a1 j hj)]
    exact h.block j (hr.lt j (.inr (.inl hj))) (a3 j hj)
  · have := own_same h.own (w' := w'.setCell ⟨r.p, 1, none⟩ v) fun j hj => Below.heap_setCell _ _ _ _ (hvp j hj)
    show World.ownsRow _ _ _ _ _ (st.P ++ [(k, l)]).length (wcells (st.P ++ [(k, l)]))
    rw [List.length_append]
    exact this
  · refine Fr.setCell (b := w') ⟨h.os, h.tape, h.output, h.size, fun j hj hF => ?_⟩ _ (.inl rfl) _
    exact h.block j hj (fun e => hF (.inr (.inr e)))
  · rintro j (hj | hj | hj)
    · exact .inl (.inl hj)
    · exact .inl (.inr (.inl hj))
    · rcases h.home j hj with e | e
      · exact .inl (.inr (.inr e))
      · exact .inr e
end Dsk
end Go.Proofs.YtbmabcddciibfaaGreat
namespace Go.Proofs.YtbmabcddciibfaaGreat
namespace Dsk
open Go.RowKit
set_option linter.unusedVariables false
theorem Rk.setStands {w : World} {r : Ro} {st : Dm.St} (h : Rk w r st) {g n cap : Nat} (hv : r.sv = .slice (some ⟨g, 0, none⟩) n cap) (k : Nat) (l : List UInt8) (hl : l.length = 64) :
    Rk (w.setCell ⟨g, k, none⟩ (.string (Om.B l))) r { st with S := st.S.set k l } ∧ RStep r r w (w.setCell ⟨g, k, none⟩ (.string (Om.B l))) := by
  obtain ⟨a1, a2, a3⟩ := h.apart
  have hg : r.sv.ownBlock = some g := by rw [hv]; rfl
  have hown := h.stands
  obtain ⟨pa, pc, hv2⟩ := own_slice hown
  have hn : n = st.S.length := by rw [hv] at hv2; injection hv2
  rw [hv, hn] at hown
  have hst := (hown.stored k (.string (Om.B l))).1
  refine ⟨⟨⟨?_, fun x hx => by rw [List.length_set]; exact h.ok.writes x hx, h.ok.fuse, by rw [List.length_set]; exact h.ok.few⟩, ?_, ?_, ?_, h.high⟩, ⟨(Fr.refl _ _).setCell _ (.inr (.inl hg)) _, fun _ h => .inl h, rfl⟩⟩
  · intro x hx
    rcases List.mem_or_eq_of_mem_set hx with h1 | h1
    · exact h.ok.sectors x h1
    · rw [h1]; exact hl
  · rw [Below.heap_setCell _ _ _ _ (Ne.symm (a1 g hg))]; exact h.head
  · show World.ownsRow _ _ _ _ r.sv (st.S.set k l).length (scells (st.S.set k l))
    rw [List.length_set, scells_set, hv, hn]
    exact hst
  · exact own_same h.pend fun j hj => Below.heap_setCell _ _ _ _ (fun e => a3 g hg (by have e : j = g := e; rw [← e]; exact hj))
structure RSet (r : Ro) (st : Dm.St) (keep : List Bool) (k : Nat) (w wr : World) : Prop where
  dk : Rk wr r { st with S := Dm.settle st.S (st.P.take k) keep }
  step : RStep r r w wr
end Dsk
end Go.Proofs.YtbmabcddciibfaaGreat
