/- The document's Put, Drop, Copy, Page; two rows held against each other. -/
import Derived.Test.YtibemiiflibnaaaTabRFind
import Derived.Test.YtibemiiflibnaaaTabPage2
import Derived.Test.YtibemiiflibnaaaTabAll
namespace Go.Proofs.Ytibemiiflibnaaa
namespace Tb
open Go.RowKit Dsk Go.Maps
set_option linter.unusedVariables false
set_option maxRecDepth 100000

/-- The document's table has gone on: the same block, other numbers. -/
def RWent (v : Value) (m : List Int) (w w' : World) : Prop := Ints w' v m ∧ Fr (fun k => v.ownBlock = some k) w w'
theorem RWent.refl {w : World} {v : Value} {m : List Int} (h : Ints w v m) : RWent v m w w := ⟨h, Fr.refl _ _⟩
theorem findI_some {m : List Int} {k : Int} {i : Nat} (h : find m k = some i) : findI m k = (i : Int) := by unfold findI; rw [h]
theorem findI_none {m : List Int} {k : Int} (h : find m k = none) : findI m k = -1 := by unfold findI; rw [h]
theorem rset {w : World} {b c : Nat} {m : List Int} (h : Ints w (.slice (some ⟨b, 0, none⟩) m.length c) m) (i : Nat) (x : Int) : RWent (.slice (some ⟨b, 0, none⟩) m.length c) (m.set i x) w (w.setCell ⟨b, i, none⟩ (.int .i64 x)) := by
  obtain ⟨h1, h2⟩ := ints_set h i x
  exact ⟨by show World.ownsRow _ _ _ _ _ _ _; simpa using h1, h2.mono fun k _ e => by rw [e]; rfl⟩

theorem rdrop_any {w : World} {a : Option Addr} {c : Nat} {m : List Int} (h : Ints w (.slice a m.length c) m) (k : Int) (hm : m.length ≤ 1048576) :
    Calls Try.prog 24 #[.slice a m.length c, .int .i64 k] w fun e w' => e = .returned (.tuple #[.int .i64 (drop m k).2.1, .int .i64 (drop m k).2.2]) ∧ RWent (.slice a m.length c) (drop m k).1 w w' := by
  have FI := Lib.hid (rfind_any h k hm)
  cases hf : find m k with
  | none =>
    rw [findI_none hf] at FI
    rw [drop_none hf]
    have FIN := Lib.hid (RWent.refl h)
    obtain ⟨n, hn⟩ : ∃ n, n = m.length := ⟨_, rfl⟩
    rw [← hn] at FI FIN ⊢
    clear hf h hn hm
    go_enter Try.func24, Try.ntmps24
    go_wp2_with (go_at_call 26; refine FI.out.mono ?_; rintro e w' ⟨rfl, rfl⟩)
    go_ret2
    exact ⟨rfl, FIN.out⟩
  | some i =>
    rw [findI_some hf] at FI
    rw [drop_has hf]
    have hil := find_lt hf
    obtain ⟨b, rfl, _, hc, hfr⟩ := ints_cell h i hil
    have FIN := Lib.hid (rset h i (-1))
    obtain ⟨n, hn⟩ : ∃ n, n = m.length := ⟨_, rfl⟩
    rw [← hn] at FI FIN hil hm ⊢
    clear hf h hn
    have d1 : decide ((i : Int) < 0) = false := by simp
    go_enter Try.func24, Try.ntmps24
    go_wp2_with (go_at_call 26; refine FI.out.mono ?_; rintro e w' ⟨rfl, rfl⟩)
    go_ret2
    exact ⟨rfl, FIN.out⟩

set_option maxHeartbeats 1000000 in
theorem rput_any {w : World} {a : Option Addr} {c : Nat} {m : List Int} (h : Ints w (.slice a m.length c) m) (k : Int) (hm : m.length ≤ 1048576) :
    Calls Try.prog 25 #[.slice a m.length c, .int .i64 k] w fun e w' => e = .returned (.tuple #[.int .i64 (put m k).2.1, .int .i64 (put m k).2.2]) ∧ RWent (.slice a m.length c) (put m k).1 w w' := by
  by_cases hk : 0 ≤ k ∧ k ≤ 2147483646
  · have d1 : decide (k < 0) = false := by simp; omega
    have d2 : decide (2147483646 < k) = false := by simp; omega
    have FI := Lib.hid (rfind_any h k hm)
    have H := Lib.hid h
    obtain ⟨n, hn⟩ : ∃ n, n = m.length := ⟨_, rfl⟩
    have HN := Lib.hid hn
    cases hf : find m k with
    | some i =>
      rw [findI_some hf] at FI
      rw [put_has hk hf]
      have FIN := Lib.hid (RWent.refl h)
      rw [← hn] at FI FIN ⊢
      have d3 : decide (0 ≤ (i : Int)) = true := by simp
      clear hf h hn hm hk
      go_enter Try.func25, Try.ntmps25
      go_wp2_with (go_at_call 26; refine FI.out.mono ?_; rintro e w' ⟨rfl, rfl⟩)
      go_ret2
      exact ⟨rfl, FIN.out⟩
    | none =>
      rw [findI_none hf] at FI
      have PN : Hid (∀ i, gap m = some i → put m k = (m.set i k, (i : Int), 0)) := Lib.hid fun i hg => put_new hk hf hg
      have PF : Hid (gap m = none → put m k = (m, 0, 111)) := Lib.hid fun hg => put_full hk hf hg
      obtain ⟨R, hR⟩ : ∃ R, R = put m k := ⟨_, rfl⟩
      rw [← hR] at PN PF ⊢
      rw [← hn] at FI hm ⊢
      have d3 : decide ((0 : Int) ≤ -1) = false := by decide
      clear hf h hn hk hR
      go_enter Try.func25, Try.ntmps25
      go_wp2_with (go_at_call 26; refine FI.out.mono ?_; rintro e w' ⟨rfl, rfl⟩)
      go_loopw [6] (fun i wr => ∃ j : Nat, i = .int .i64 (j : Int) ∧ j ≤ n ∧ Hid (w = wr) ∧ Hid (∀ x y, x < j → m[x]? = some y → 0 ≤ y)) (fun i _ => n - (Lib.intOf i).toNat)
      case atStart => exact ⟨0, rfl, Nat.zero_le _, Lib.hid rfl, Lib.hid fun x y hx => absurd hx (by omega)⟩
      case round =>
        obtain ⟨j, rfl, hj, hw, hno⟩ := hrel
        by_cases hlt : j < n
        · have t1 : decide ((j : Int) < (n : Int)) = true := by simp; omega
          have t2 : decide (j < n) = true := by simp; omega
          obtain ⟨b, hb, _, hc, hfr⟩ := ints_cell H.out j (by have := HN.out; omega)
          subst hb
          rw [hw.out] at hc hfr
          have hget := Hp.at_get m j (by have := HN.out; omega)
          obtain ⟨x, hx⟩ : ∃ x, x = Hp.at_ m j := ⟨_, rfl⟩
          rw [← hx] at hc hget
          have HG := Lib.hid hget
          have hw1 : IntKind.i64.wrap ((j : Int) + 1) = ((j + 1 : Nat) : Int) := by rw [IntWalk.i64_in _ (by omega)]; rfl
          clear hx hget
          by_cases hx0 : x < 0
          · have t3 : decide (x < 0) = true := by simpa using hx0
            have hg : gap m = some j := gap_some.2 ⟨⟨x, HG.out, hx0⟩, fun y z hy hz => hno.out y z hy hz⟩
            have FIN : Hid (R = (m.set j k, (j : Int), 0) ∧ RWent (.slice (some ⟨b, 0, none⟩) n c) (m.set j k) w (wr.setCell ⟨b, j, none⟩ (.int .i64 k))) := by
              refine Lib.hid ⟨PN.out j hg, ?_⟩
              have := rset H.out j k
              rw [← hw.out, HN.out]
              exact this
            clear hg hx0 PN PF FI
            go_wp2
            go_ret2
            obtain ⟨e1, e2⟩ := FIN.out
            exact ⟨by rw [e1]; rfl, by rw [e1]; exact e2⟩
          · have t3 : decide (x < 0) = false := by simpa using hx0
            have N2 : Hid (∀ y z, y < j + 1 → m[y]? = some z → 0 ≤ z) := Lib.hid fun y z hy hz => by
              by_cases e : y = j
              · rw [e, HG.out] at hz; injection hz with hz; omega
              · exact hno.out y z (by omega) hz
            clear hx0
            go_wp2
            go_roundw
            case rel => exact ⟨j + 1, by go_num, by omega, hw, N2⟩
            case measure => simp [Lib.intOf]; omega
        · obtain rfl : j = n := by omega
          have t1 : decide ((j : Int) < (j : Int)) = false := by simp
          have t2 : decide (j < j) = false := by simp
          have hg : gap m = none := gap_none.2 fun x hx => by
            obtain ⟨y, hy⟩ := List.getElem?_of_mem hx
            exact hno.out y x (by have := (List.getElem?_eq_some_iff.1 hy).1; have := HN.out; omega) hy
          have FIN : Hid (R = (m, 0, 111) ∧ RWent (.slice a j c) m w wr) := by
            refine Lib.hid ⟨PF.out hg, ?_⟩
            have := RWent.refl H.out
            rw [← hw.out, HN.out]
            exact this
          clear hg PN PF FI
          go_wp2
          go_ret2
          obtain ⟨e1, e2⟩ := FIN.out
          exact ⟨by rw [e1]; rfl, by rw [e1]; exact e2⟩
  · rw [put_arg hk]
    have FIN := Lib.hid (RWent.refl h)
    obtain ⟨n, hn⟩ : ∃ n, n = m.length := ⟨_, rfl⟩
    rw [← hn] at FIN ⊢
    by_cases h0 : k < 0
    · have d1 : decide (k < 0) = true := by simpa using h0
      clear h hn hm hk
      go_enter Try.func25, Try.ntmps25
      go_wp2
      go_ret2
      exact ⟨rfl, FIN.out⟩
    · have d1 : decide (k < 0) = false := by simpa using h0
      have d2 : decide (2147483646 < k) = true := by simp; omega
      clear h hn hm hk
      go_enter Try.func25, Try.ntmps25
      go_wp2
      go_ret2
      exact ⟨rfl, FIN.out⟩
end Tb
end Go.Proofs.Ytibemiiflibnaaa
