/- The contract of the disk's Write. -/
import Derived.Test.YtbmabcddciibfaaDiskRead
namespace Go.Proofs.Ytbmabcddciibfaa
namespace Dsk
open Go.RowKit
set_option maxRecDepth 100000
set_option linter.unusedVariables false
theorem Went.trans {o : Ob} {st : Dm.St} {w w1 w2 : World} {o1 : Ob} (h1 : Step o o1 w w1) (h : Went o1 st w1 w2) : Went o st w w2 := by
  obtain ⟨o2, hd, hs⟩ := h
  exact ⟨o2, hd, h1.trans hs⟩
theorem Went.below {o : Ob} {st : Dm.St} {w w1 w2 : World} (hb : Below w.heap.size w w1) (h : Went o st w1 w2) : Went o st w w2 := Went.trans (Step.of_below hb) h

theorem write_no {w : World} {o : Ob} {st : Dm.St} (h : Dk w o st) (a : Int) (l : List UInt8) (ha : a ≤ 9223372036854775807) (hl : l.length ≤ 140737488355328) (hno : st.dead = true ∨ l.length % 64 ≠ 0 ∨ Dm.thereB st a (l.length / 64 : Nat) = false) :
    Calls Try.prog 28 #[.pointer (some ⟨o.p, 0, none⟩), .int .i64 a, .string (Om.B l)] w fun e w' => e = .returned (.int .i64 (Dm.write st a l).2) ∧ w = w' := by
  obtain ⟨_, _, _, _, h4, _⟩ := h.reads
  have hs := Om.B_size l
  obtain ⟨n, hn⟩ : ∃ n, n = l.length := ⟨_, rfl⟩
  cases hdead : st.dead with
  | true =>
    have e1 : Dm.write st a l = (st, 41) := by unfold Dm.write; rw [if_pos hdead]
    rw [e1]
    rw [hdead] at h4
    clear hs hdead hno h e1 hn
    go_enter Try.func28, Try.ntmps28
    go_wp2
    go_ret
    exact ⟨rfl, rfl⟩
  | false =>
    by_cases hm : l.length % 64 = 0
    · have hth : Dm.thereB st a (l.length / 64 : Nat) = false := (hno.resolve_left (by rw [hdead]; decide)).resolve_left (by omega)
      have e1 : Dm.write st a l = (st, 2) := by unfold Dm.write; rw [if_neg (by rw [hdead]; decide), if_pos hm, hth]; rfl
      rw [e1]
      rw [hdead] at h4
      have hc := has_any h a ((l.length / 64 : Nat) : Int) ha
      rw [hth] at hc
      rw [← hn] at hs hc hm hl
      obtain ⟨m, hmm⟩ : ∃ m, m = n / 64 := ⟨_, rfl⟩
      rw [← hmm] at hc
      have hm0 : ((n : Int) % 64 != 0) = false := by simp; omega
      have hq : (n : Int) / 64 = (m : Int) := by omega
      clear hmm hm
      have HC := Lib.hid hc
      clear hdead hno h hth hc e1 hn
      go_enter Try.func28, Try.ntmps28
      go_wp2_with (go_at_call 35; refine HC.out.mono ?_; rintro e w' ⟨rfl, rfl⟩)
      go_ret
      exact ⟨rfl, rfl⟩
    · have e1 : Dm.write st a l = (st, 1) := by unfold Dm.write; rw [if_neg (by rw [hdead]; decide), if_neg hm]
      rw [e1]
      rw [hdead] at h4
      rw [← hn] at hs hm hl
      have hm0 : ((n : Int) % 64 != 0) = true := by simp; omega
      clear hdead hno h e1 hn
      go_enter Try.func28, Try.ntmps28
      go_wp2
      go_ret
      exact ⟨rfl, rfl⟩

theorem write_no_st {st : Dm.St} {a : Int} {l : List UInt8} (hno : st.dead = true ∨ l.length % 64 ≠ 0 ∨ Dm.thereB st a (l.length / 64 : Nat) = false) : (Dm.write st a l).1 = st := by
  unfold Dm.write
  split
  · rfl
  · split
    · split
      · rename_i h1 h2 h3
        rcases hno with h | h | h
        · exact absurd h h1
        · exact absurd h2 h
        · rw [h] at h3; cases h3
      · rfl
    · rfl
theorem puts_step {st : Dm.St} {k : Nat} {c : List UInt8} {cs : List (List UInt8)} (h : Dm.spendB st = true) : Dm.puts st k (c :: cs) = Dm.puts (Dm.put (Dm.spendS st) k c) (k + 1) cs := by
  show (if Dm.spendB st then _ else _) = _
  rw [if_pos h]
theorem puts_stop {st : Dm.St} {k : Nat} {c : List UInt8} {cs : List (List UInt8)} (h : Dm.spendB st = false) : Dm.puts st k (c :: cs) = (Dm.spendS st, 41) := by
  show (if Dm.spendB st then _ else _) = _
  rw [if_neg (by rw [h]; decide)]
theorem drop_chunks {l : List UInt8} {k : Nat} (h : k < l.length / 64) : (Dm.chunks l).drop k = ((l.drop (64 * k)).take 64) :: (Dm.chunks l).drop (k + 1) := by
  rw [List.drop_eq_getElem_cons (by rw [Dm.chunks_length]; exact h)]
  congr 1
  simp [Dm.chunks]

/-- Behind so many puts. -/
structure Mid (o : Ob) (st : Dm.St) (a : Nat) (cs : List (List UInt8)) (k : Nat) (w wr : World) (st' : Dm.St) (o' : Ob) : Prop where
  dk : Dk wr o' st'
  step : Step o o' w wr
  puts : Dm.puts st a cs = Dm.puts st' (a + k) (cs.drop k)
  S : st'.S = st.S
  P : st'.P.length ≤ st.P.length + k

theorem write_yes {w : World} {o : Ob} {st : Dm.St} (h : Dk w o st) (a : Nat) (l : List UInt8) (hdead : st.dead = false) (hm : l.length % 64 = 0) (hth : a + l.length / 64 ≤ st.S.length) (hP : st.P.length ≤ 549755813888) :
    Calls Try.prog 28 #[.pointer (some ⟨o.p, 0, none⟩), .int .i64 (a : Int), .string (Om.B l)] w fun e w' => e = .returned (.int .i64 (Dm.puts st a (Dm.chunks l)).2) ∧ Went o (Dm.puts st a (Dm.chunks l)).1 w w' := by
  obtain ⟨_, _, _, _, h4, _⟩ := h.reads
  have hs := Om.B_size l
  have hfew := h.ok.few
  have hc := has_any h (a : Int) ((l.length / 64 : Nat) : Int) (by omega)
  rw [(Dm.there_iff st a _).2 ⟨by omega, by omega, by omega⟩] at hc
  obtain ⟨n, hn⟩ : ∃ n, n = l.length := ⟨_, rfl⟩
  obtain ⟨m, hmm⟩ : ∃ m, m = n / 64 := ⟨_, rfl⟩
  rw [hdead] at h4
  rw [← hn] at hs hc hm hth
  rw [← hmm] at hc hth
  have hm0 : ((n : Int) % 64 != 0) = false := by simp; omega
  have hq : (n : Int) / 64 = (m : Int) := by omega
  have hnm : n = 64 * m := by omega
  have hcl : (Dm.chunks l).length = m := by rw [Dm.chunks_length, ← hn, hmm]
  have HC := Lib.hid hc
  have H := Lib.hid h
  have HN := Lib.hid hn
  have HNM := Lib.hid hnm
  have HCL := Lib.hid hcl
  have HM : m ≤ 1048576 := by omega
  have HNb : n ≤ 67108864 := by omega
  clear hdead h hc hn hmm hnm hcl hm
  go_enter Try.func28, Try.ntmps28
  go_wp2_with (go_at_call 35; refine HC.out.mono ?_; rintro e w' ⟨rfl, rfl⟩)
  go_loopw [32] (fun i wr => ∃ (k : Nat) (st' : Dm.St) (o' : Ob), k ≤ m ∧ i = .int .i64 k ∧ Hid (Mid o st a (Dm.chunks l) k w wr st' o')) (fun i _ => m - (intOf i).toNat)
  case atStart => exact ⟨0, st, o, Nat.zero_le _, rfl, Lib.hid ⟨H.out, Step.refl _ _, rfl, rfl, Nat.le_refl _⟩⟩
  case round =>
    obtain ⟨k, st', o', hk, rfl, hmid⟩ := hrel
    clear HC h4
    by_cases hlt : k < m
    · obtain ⟨K, hK⟩ : ∃ K, K = 64 * k := ⟨_, rfl⟩
      have hKN : K + 64 ≤ n := by have := HNM.out; omega
      have hki : IntKind.i64.wrap ((k : Int) * 64) = (K : Int) := by rw [IntWalk.i64_in _ (by omega)]; omega
      have hks : IntKind.i64.wrap ((a : Int) + (k : Int)) = ((a + k : Nat) : Int) := by rw [IntWalk.i64_in _ (by omega)]; omega
      have b1 : (K : Int) ≤ (n : Int) := by omega
      have b3 : K ≤ n := by omega
      have b4 : 64 ≤ n - K := by omega
      have hd : decide (k < m) = true := by simpa using hlt
      have hsp := spend_any hmid.out.dk
      rw [hmid.out.step.p] at hsp
      have HK := Lib.hid hK
      clear hK
      have hdrop := drop_chunks (l := l) (k := k) (by have := HN.out; have := HNM.out; omega)
      cases hb : Dm.spendB st' with
      | false =>
        rw [hb] at hsp
        have HSP := Lib.hid hsp
        have HB := Lib.hid hb
        have HD := Lib.hid hdrop
        clear hsp hb hdrop
        go_wp2_with (go_at_call 31; refine HSP.out.mono ?_; rintro e w' ⟨rfl, hw'⟩; have HW := Lib.hid hw'; clear hw')
        go_ret
        have e1 : Dm.puts st a (Dm.chunks l) = (Dm.spendS st', 41) := by rw [hmid.out.puts, HD.out, puts_stop HB.out]
        rw [e1]
        exact ⟨rfl, Went.trans hmid.out.step HW.out⟩
      | true =>
        rw [hb] at hsp
        have HSP := Lib.hid hsp
        have HB := Lib.hid hb
        have HD := Lib.hid hdrop
        clear hsp hb hdrop
        go_wp2_with fail
        refine HSP.out.mono ?_
        rintro e w1 ⟨rfl, o1, hd1, hs1⟩
        have hst := hmid.out.step.trans hs1
        have hS1 : (Dm.spendS st').S = st.S := (Dm.spendS_S st').trans hmid.out.S
        have hP1 : (Dm.spendS st').P.length ≤ st.P.length + k := by rw [Dm.spendS_P]; exact hmid.out.P
        have hlen : ((l.drop (64 * k)).take 64).length = 64 := by
          rw [List.length_take, List.length_drop, ← HN.out, ← HK.out]; omega
        have hput := put_any hd1 (a + k) ((l.drop (64 * k)).take 64) (by rw [hS1]; omega) hlen (by omega)
        rw [hst.p] at hput
        have HPUT := Lib.hid hput
        have HST := Lib.hid hst
        have HS1 := Lib.hid hS1
        have HP1 := Lib.hid hP1
        have hx1 : (Om.B l).extract K n = Om.B (l.drop (64 * k)) := by
          rw [← HK.out]
          have := Om.extract_end (Om.B l) K
          rw [Om.L_B, Om.B_size, ← HN.out] at this
          exact this
        have hx0 : (Om.B (l.drop (64 * k))).size = n - K := by rw [Om.B_size, List.length_drop, ← HN.out, ← HK.out]
        have hx2 : (Om.B (l.drop (64 * k))).extract 0 64 = Om.B ((l.drop (64 * k)).take 64) := by
          have := Om.extract_front (Om.B (l.drop (64 * k))) 64
          rw [Om.L_B] at this
          exact this
        clear hd1 hs1 hst hS1 hP1 hlen hput
        go_wp2_with fail
        refine HPUT.out.mono ?_
        rintro e w2 ⟨rfl, o2, hd2, hs2⟩
        have HD2 := Lib.hid hd2
        have HS2 := Lib.hid hs2
        clear hd2 hs2 hx0 hx1 hx2
        go_wp2
        go_roundw
        case rel =>
          refine ⟨k + 1, _, o2, by omega, by go_num, Lib.hid ⟨HD2.out, HST.out.trans HS2.out, ?_, HS1.out, ?_⟩⟩
          · rw [hmid.out.puts, HD.out, puts_step HB.out]; rfl
          · show ((Dm.spendS st').P ++ _).length ≤ _
            rw [List.length_append]
            have := HP1.out
            simp
            omega
        case measure => simp [intOf]; omega
    · obtain rfl : k = m := by omega
      have hd : decide (k < k) = false := by simp
      go_wp2
      go_ret
      have e1 : Dm.puts st a (Dm.chunks l) = (st', 0) := by rw [hmid.out.puts, List.drop_of_length_le (by rw [HCL.out]; omega)]; rfl
      rw [e1]
      exact ⟨rfl, o', hmid.out.dk, hmid.out.step⟩
theorem write_any {w : World} {o : Ob} {st : Dm.St} (h : Dk w o st) (a : Int) (l : List UInt8) (ha : a ≤ 9223372036854775807) (hl : l.length ≤ 140737488355328) (hP : st.P.length ≤ 549755813888) :
    Calls Try.prog 28 #[.pointer (some ⟨o.p, 0, none⟩), .int .i64 a, .string (Om.B l)] w fun e w' => e = .returned (.int .i64 (Dm.write st a l).2) ∧ Went o (Dm.write st a l).1 w w' := by
  by_cases hno : st.dead = true ∨ l.length % 64 ≠ 0 ∨ Dm.thereB st a (l.length / 64 : Nat) = false
  · refine (write_no h a l ha hl hno).mono ?_
    rintro e w' ⟨he, rfl⟩
    exact ⟨he, by rw [write_no_st hno]; exact Went.refl h⟩
  · have h1 : st.dead = false := by cases hd : st.dead with | true => exact absurd (.inl hd) hno | false => rfl
    have h2 : l.length % 64 = 0 := Classical.byContradiction fun c => hno (.inr (.inl c))
    have h3 : Dm.thereB st a (l.length / 64 : Nat) = true := by
      cases hd : Dm.thereB st a (l.length / 64 : Nat) with
      | true => rfl
      | false => exact absurd (.inr (.inr hd)) hno
    obtain ⟨c1, c2, c3⟩ := (Dm.there_iff _ _ _).1 h3
    obtain ⟨b, rfl⟩ : ∃ b : Nat, a = (b : Int) := ⟨a.toNat, by omega⟩
    have e1 : Dm.write st (b : Int) l = Dm.puts st b (Dm.chunks l) := by
      unfold Dm.write
      rw [if_neg (by rw [h1]; decide), if_pos h2, if_pos h3, Int.toNat_natCast]
    rw [e1]
    exact write_yes h b l h1 h2 (by omega) hP
theorem read_any {w : World} {o : Ob} {st : Dm.St} (h : Dk w o st) (a n : Int) (ha : a ≤ 9223372036854775807) (hP : st.P.length ≤ 1099511627776) :
    Calls Try.prog 24 #[.pointer (some ⟨o.p, 0, none⟩), .int .i64 a, .int .i64 n] w fun e w' => e = .returned (.tuple #[.string (Om.B (Dm.readS st a n)), .int .i64 (Dm.readE st a n)]) ∧ Below w.heap.size w w' := by
  by_cases hno : st.dead = true ∨ Dm.thereB st a n = false
  · refine (read_no h a n ha hno).mono ?_
    rintro e w' ⟨he, rfl⟩
    exact ⟨he, Below.refl _ _⟩
  · have h1 : st.dead = false := by cases hd : st.dead with | true => exact absurd (.inl hd) hno | false => rfl
    have h3 : Dm.thereB st a n = true := by
      cases hd : Dm.thereB st a n with
      | true => rfl
      | false => exact absurd (.inr hd) hno
    obtain ⟨c1, c2, c3⟩ := (Dm.there_iff _ _ _).1 h3
    have e1 : Dm.readS st a n = Dm.span st a.toNat n.toNat := by unfold Dm.readS; rw [if_neg (by rw [h1]; decide), if_pos h3]
    have e2 : Dm.readE st a n = 0 := by unfold Dm.readE; rw [if_neg (by rw [h1]; decide), if_pos h3]
    rw [e1, e2]
    obtain ⟨b, rfl⟩ : ∃ b : Nat, a = (b : Int) := ⟨a.toNat, by omega⟩
    obtain ⟨m, rfl⟩ : ∃ m : Nat, n = (m : Int) := ⟨n.toNat, by omega⟩
    rw [Int.toNat_natCast, Int.toNat_natCast]
    exact read_yes h b m h1 (by omega) hP
end Dsk
end Go.Proofs.Ytbmabcddciibfaa