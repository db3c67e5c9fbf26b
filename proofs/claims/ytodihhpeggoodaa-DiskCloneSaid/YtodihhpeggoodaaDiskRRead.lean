/- Contracts of the document's disk: One, Bytes, Read. -/
import Derived.Test.YtodihhpeggoodaaDiskRMem
namespace Go.Proofs.Ytodihhpeggoodaa
namespace Dsk
open Go.RowKit
set_option linter.unusedVariables false

theorem Rk.pair {w : World} {r : Ro} {st : Dm.St} (h : Rk w r st) {pa : Option Addr} {n pc : Nat} (hv : r.pv = .slice pa n pc) {k : Nat} (hk : k < st.P.length) :
    ∃ g, pa = some ⟨g, 0, none⟩ ∧ w.cell? ⟨g, k * 2, none⟩ = some (.int .i64 (st.P[k].1 : Int)) ∧ w.cell? ⟨g, k * 2 + 1, none⟩ = some (.string (Om.B st.P[k].2)) := by
  have hown := h.pend
  rcases hown.2 with ⟨_, hz⟩ | ⟨g, cap, cc, hv2, _⟩
  · omega
  · have hv3 := hv.symm.trans hv2
    injection hv3 with h1 h2 h3
    subst h1
    rw [hv2] at hown
    obtain ⟨c1, c2⟩ := wcells_get st.P k hk
    refine ⟨g, rfl, ?_, ?_⟩
    · rw [hown.cellAt (k * 2) (by omega), Nat.mul_comm]; exact c1
    · rw [hown.cellAt (k * 2 + 1) (by omega), Nat.mul_comm]; exact c2
theorem Rk.at {w : World} {r : Ro} {st : Dm.St} (h : Rk w r st) {sa : Option Addr} {n sc : Nat} (hv : r.sv = .slice sa n sc) {k : Nat} (hk : k < st.S.length) :
    ∃ g, sa = some ⟨g, 0, none⟩ ∧ r.sv.ownBlock = some g ∧ w.cell? ⟨g, k, none⟩ = some (.string (Om.B (st.S.getD k []))) ∧ w.frozen? ⟨g, k, none⟩ = false := by
  have hown := h.stands
  rcases hown.2 with ⟨_, hz⟩ | ⟨g, cap, cc, hv2, _⟩
  · omega
  · have hv3 := hv.symm.trans hv2
    injection hv3 with h1 h2 h3
    subst h1
    rw [hv2] at hown
    refine ⟨g, rfl, by rw [hv2]; rfl, ?_, hown.frozenAt k⟩
    rw [hown.cellAt k (by omega)]; exact scells_get hk

theorem last_take {P : List (Nat × List UInt8)} {k : Nat} (h : k < P.length) (a : Nat) (d : List UInt8) : Dm.last (P.take (k + 1)) a d = if P[k].1 = a then P[k].2 else Dm.last (P.take k) a d := by
  rw [take_snoc' h, Dm.last_snoc]

theorem one_any {w : World} {r : Ro} {st : Dm.St} (h : Rk w r st) (a : Nat) (ha : a < st.S.length) (hP : st.P.length ≤ 1099511627776) :
    Calls Try.prog 39 #[.pointer (some ⟨r.p, 0, none⟩), .int .i64 (a : Int)] w fun e w' => e = .returned (.string (Om.B (Dm.one st a))) ∧ w = w' := by
  obtain ⟨h0, h1, _⟩ := h.reads
  obtain ⟨sa, sc, hsv⟩ := own_slice h.stands
  obtain ⟨pa, pc, hpv⟩ := own_slice h.pend
  obtain ⟨g, rfl, _, hc, _⟩ := h.at hsv ha
  rw [hsv] at h0
  rw [hpv] at h1
  have hfew := h.ok.few
  obtain ⟨m, hm⟩ : ∃ m, m = st.S.length := ⟨_, rfl⟩
  obtain ⟨n, hn⟩ : ∃ n, n = st.P.length := ⟨_, rfl⟩
  rw [← hm] at h0 ha hfew
  rw [← hn] at h1 hpv hP
  have H := Lib.hid h
  have HPV := Lib.hid hpv
  have HN := Lib.hid hn
  clear h hsv hpv hm hn
  go_enter Try.func39, Try.ntmps39
  go_wp2
  go_loop [5, 6] (fun s i => ∃ k : Nat, k ≤ n ∧ i = .int .i64 k ∧ s = .string (Om.B (Dm.last (st.P.take k) a (st.S.getD a [])))) (fun _ i => n - (intOf i).toNat)
  case atStart => exact ⟨0, Nat.zero_le _, rfl, rfl⟩
  case round =>
    obtain ⟨k, hk, rfl, rfl⟩ := hrel
    by_cases hlt : k < n
    · have hd : decide (k < n) = true := by simpa using hlt
      have hkk : k < st.P.length := by rw [← HN.out]; exact hlt
      obtain ⟨g', rfl, c1, c2⟩ := H.out.pair HPV.out (k := k) hkk
      have hl := last_take hkk a (st.S.getD a [])
      obtain ⟨x, hx⟩ : ∃ x, x = st.P[k] := ⟨_, rfl⟩
      have c1' : w.cell? ⟨g', k * 2, none⟩ = some (.int .i64 (x.1 : Int)) := by rw [hx]; exact c1
      have c2' : w.cell? ⟨g', k * 2 + 1, none⟩ = some (.string (Om.B x.2)) := by rw [hx]; exact c2
      rw [← hx] at hl
      clear c1 c2 hx
      by_cases e : x.1 = a
      · have he : ((x.1 : Int) == (a : Int)) = true := by simp [e]
        rw [if_pos e] at hl
        have HL := Lib.hid hl
        clear hl e
        go_wp2
        go_round
        case rel => exact ⟨k + 1, by omega, by go_num, by rw [HL.out]⟩
        case measure => simp [intOf]; omega
      · have he : ((x.1 : Int) == (a : Int)) = false := by simp; omega
        rw [if_neg e] at hl
        have HL := Lib.hid hl
        clear hl e
        go_wp2
        go_round
        case rel => exact ⟨k + 1, by omega, by go_num, by rw [HL.out]⟩
        case measure => simp [intOf]; omega
    · obtain rfl : k = n := by omega
      have hd : decide (k < k) = false := by simp
      go_wp2
      go_ret
      refine ⟨?_, rfl⟩
      rw [HN.out, List.take_length]
      rfl

theorem flat_take {S : List (List UInt8)} {k : Nat} (h : k < S.length) : (S.take (k + 1)).flatten = (S.take k).flatten ++ S.getD k [] := by
  rw [List.take_succ_eq_append_getElem h, List.flatten_append]; simp [h]
theorem flat_len_le {S : List (List UInt8)} (h : ∀ x ∈ S, x.length = 64) (k : Nat) : (S.take k).flatten.length ≤ 64 * S.length := by
  rw [Dm.flat_length (fun x hx => h x (List.mem_of_mem_take hx)), List.length_take]; omega
theorem no_over (a b : List UInt8) (h : a.length + b.length < 4611686018427387904) : ¬ 9223372036854775807 < (Om.B a).size + (Om.B b).size := by
  rw [Om.B_size, Om.B_size]; omega

theorem rbytes_any {w : World} {r : Ro} {st : Dm.St} (h : Rk w r st) :
    Calls Try.prog 14 #[.pointer (some ⟨r.p, 0, none⟩)] w fun e w' => e = .returned (.string (Om.B st.S.flatten)) ∧ w = w' := by
  obtain ⟨h0, _⟩ := h.reads
  obtain ⟨sa, sc, hsv⟩ := own_slice h.stands
  rw [hsv] at h0
  have hfew := h.ok.few
  obtain ⟨m, hm⟩ : ∃ m, m = st.S.length := ⟨_, rfl⟩
  rw [← hm] at h0 hfew hsv
  have H := Lib.hid h
  have HSV := Lib.hid hsv
  have HM := Lib.hid hm
  clear h hsv hm
  go_enter Try.func14, Try.ntmps14
  go_wp2
  go_loop [3, 4] (fun s i => ∃ k : Nat, k ≤ m ∧ i = .int .i64 k ∧ s = .string (Om.B (st.S.take k).flatten)) (fun _ i => m - (intOf i).toNat)
  case atStart => exact ⟨0, Nat.zero_le _, rfl, rfl⟩
  case round =>
    obtain ⟨k, hk, rfl, rfl⟩ := hrel
    by_cases hlt : k < m
    · have hd : decide (k < m) = true := by simpa using hlt
      have hkk : k < st.S.length := by rw [← HM.out]; exact hlt
      obtain ⟨g', rfl, _, c1, _⟩ := H.out.at HSV.out (k := k) hkk
      have hf := flat_take hkk
      have hov := no_over (st.S.take k).flatten (st.S.getD k []) (by
        have := flat_len_le H.out.ok.sectors k
        have := H.out.ok.sectors _ (Dm.getD_mem hkk)
        rw [← HM.out] at *
        omega)
      have happ := Om.B_append (st.S.take k).flatten (st.S.getD k [])
      rw [← hf] at happ
      obtain ⟨x, hx⟩ : ∃ x, x = st.S.getD k [] := ⟨_, rfl⟩
      rw [← hx] at c1 hov happ
      clear hf hkk hx
      go_wp2
      go_round
      case rel => exact ⟨k + 1, by omega, by go_num, rfl⟩
      case measure => simp [intOf]; omega
    · obtain rfl : k = m := by omega
      have hd : decide (k < k) = false := by simp
      go_wp2
      go_ret
      refine ⟨?_, rfl⟩
      rw [HM.out, List.take_length]
      rfl

theorem rread_no {w : World} {r : Ro} {st : Dm.St} (h : Rk w r st) (a n : Int) (ha : a ≤ 9223372036854775807) (hno : st.dead = true ∨ Dm.thereB st a n = false) :
    Calls Try.prog 25 #[.pointer (some ⟨r.p, 0, none⟩), .int .i64 a, .int .i64 n] w fun e w' => e = .returned (.tuple #[.string (Om.B (Dm.readS st a n)), .int .i64 (Dm.readE st a n)]) ∧ w = w' := by
  obtain ⟨_, _, _, h3, _⟩ := h.reads
  cases hdead : st.dead with
  | true =>
    have hs : Dm.readS st a n = [] := by unfold Dm.readS; rw [if_pos hdead]
    have he : Dm.readE st a n = 41 := by unfold Dm.readE; rw [if_pos hdead]
    rw [hs, he]
    rw [hdead] at h3
    clear hs he hdead hno h
    go_enter Try.func25, Try.ntmps25
    go_wp2
    go_ret2
    exact ⟨rfl, rfl⟩
  | false =>
    have hth : Dm.thereB st a n = false := hno.resolve_left (by rw [hdead]; decide)
    have hs : Dm.readS st a n = [] := by unfold Dm.readS; rw [if_neg (by rw [hdead]; decide), hth]; rfl
    have he : Dm.readE st a n = 2 := by unfold Dm.readE; rw [if_neg (by rw [hdead]; decide), hth]; rfl
    rw [hs, he]
    rw [hdead] at h3
    have hc := there_any h a n ha
    rw [hth] at hc
    have HC := Lib.hid hc
    clear hs he hdead hno h hth hc
    go_enter Try.func25, Try.ntmps25
    go_wp2_with (go_at_call 38; refine HC.out.mono ?_; rintro e w' ⟨rfl, rfl⟩)
    go_ret2
    exact ⟨rfl, rfl⟩
theorem rread_yes {w : World} {r : Ro} {st : Dm.St} (h : Rk w r st) (a n : Nat) (hdead : st.dead = false) (hn : a + n ≤ st.S.length) (hP : st.P.length ≤ 1099511627776) :
    Calls Try.prog 25 #[.pointer (some ⟨r.p, 0, none⟩), .int .i64 (a : Int), .int .i64 (n : Int)] w fun e w' => e = .returned (.tuple #[.string (Om.B (Dm.span st a n)), .int .i64 0]) ∧ w = w' := by
  obtain ⟨_, _, _, h3, _⟩ := h.reads
  have hfew := h.ok.few
  have hc := there_any h (a : Int) (n : Int) (by omega)
  rw [(Dm.there_iff st a n).2 ⟨by omega, by omega, by omega⟩] at hc
  rw [hdead] at h3
  have HC := Lib.hid hc
  have H := Lib.hid h
  clear hc h hdead
  go_enter Try.func25, Try.ntmps25
  go_wp2_with (go_at_call 38; refine HC.out.mono ?_; rintro e w' ⟨rfl, rfl⟩)
  go_loop [9, 10] (fun s i => ∃ k : Nat, k ≤ n ∧ i = .int .i64 k ∧ s = .string (Om.B (Dm.span st a k))) (fun _ i => n - (intOf i).toNat)
  case atStart => exact ⟨0, Nat.zero_le _, rfl, rfl⟩
  case round =>
    obtain ⟨k, hk, rfl, rfl⟩ := hrel
    by_cases hlt : k < n
    · have hd : decide (k < n) = true := by simpa using hlt
      have hks : IntKind.i64.wrap ((a : Int) + (k : Int)) = ((a + k : Nat) : Int) := by rw [IntWalk.i64_in _ (by omega)]; omega
      have hcall := one_any H.out (a + k) (by omega) hP
      have HCALL := Lib.hid hcall
      have hov := no_over (Dm.span st a k) (Dm.one st (a + k)) (by
        rw [Dm.span_length H.out.ok a k (by omega), Dm.one_length H.out.ok (a + k) (by omega)]; omega)
      have happ := Om.B_append (Dm.span st a k) (Dm.one st (a + k))
      rw [← Dm.span_succ] at happ
      clear hcall
      go_wp2_with (go_at_call 39; refine HCALL.out.mono ?_; rintro e w' ⟨rfl, rfl⟩)
      go_round
      case rel => exact ⟨k + 1, by omega, by go_num, rfl⟩
      case measure => simp [intOf]; omega
    · obtain rfl : k = n := by omega
      have hd : decide (k < k) = false := by simp
      go_wp2
      go_ret2
      exact ⟨rfl, rfl⟩
theorem rread_any {w : World} {r : Ro} {st : Dm.St} (h : Rk w r st) (a n : Int) (ha : a ≤ 9223372036854775807) (hP : st.P.length ≤ 1099511627776) :
    Calls Try.prog 25 #[.pointer (some ⟨r.p, 0, none⟩), .int .i64 a, .int .i64 n] w fun e w' => e = .returned (.tuple #[.string (Om.B (Dm.readS st a n)), .int .i64 (Dm.readE st a n)]) ∧ w = w' := by
  by_cases hno : st.dead = true ∨ Dm.thereB st a n = false
  · exact rread_no h a n ha hno
  · have h1 : st.dead = false := by cases hd : st.dead with | true => exact absurd (.inl hd) hno | false => rfl
    have h3 : Dm.thereB st a n = true := by
      cases hd : Dm.thereB st a n with
      | true => rfl
      | false => exact absurd (.inr hd) hno
    obtain ⟨c1, c2, c3⟩ := (Dm.there_iff _ _ _).1 h3
    have e1 : Dm.readS st a n = Dm.span st a.toNat n.toNat := by unfold Dm.readS; rw [if_neg (by rw [h1]; decide), if_pos h3]
    have e2 : Dm.readE st a n = 0 := by unfold Dm.readE; rw [if_neg (by rw [h1]; decide), if_pos h3]
    rw [e1, e2]
    obtain ⟨b, rfl⟩ : ∃ b : Nat, a = (b : Int) := ⟨a.toNat, by omega⟩
    obtain ⟨m, rfl⟩ : ∃ m : Nat, n = (m : Int) := ⟨n.toNat, by omega⟩
    rw [Int.toNat_natCast, Int.toNat_natCast]
    exact rread_yes h b m h1 (by omega) hP
end Dsk
end Go.Proofs.Ytodihhpeggoodaa
