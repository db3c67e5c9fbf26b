/- The contract of the document's own Get. -/
import Derived.Test.YtncbimgbjkdocaaOctetGet2
import Derived.Test.YtncbimgbjkdocaaOctetRNum
import Derived.Deep.QuietTactic
import Derived.BigQuiet
import Derived.Outline
namespace Go.Proofs.Ytncbimgbjkdocaa
open Go.RowKit
set_option maxRecDepth 100000
set_option linter.unusedVariables false

/-- What the document's Get gives, where it gives numbers. -/
def RGetOk (l : List UInt8) (zs : List Int) (n : Nat) (w : World) (e : Ending) (w' : World) : Prop :=
  ∃ a c, e = .returned (.tuple #[.slice a n c, .string (Om.B (l.drop (Om.off zs n))), .int .i64 0]) ∧ Row w' w'.heap.size a n (fun i => .int .u64 (Om.at_ l zs i : Int)) ∧ Below w.heap.size w w'
def RGetIs (l : List UInt8) (zs : List Int) (n : Nat) (w : World) (e : Ending) (w' : World) : Prop :=
  (Om.sizesOk zs = false ∧ e = .returned (.tuple #[.slice none 0 0, .string (Om.B []), .int .i64 1]) ∧ Below w.heap.size w w') ∨
  (Om.sizesOk zs = true ∧ ¬ Om.off zs n ≤ l.length ∧ e = .returned (.tuple #[.slice none 0 0, .string (Om.B []), .int .i64 21]) ∧ Below w.heap.size w w') ∨
  (Om.sizesOk zs = true ∧ Om.off zs n ≤ l.length ∧ RGetOk l zs n w e w')
def got (l : List UInt8) (zs : List Int) (k : Nat) : List Value := (List.range k).map fun i => Value.int .u64 (Om.at_ l zs i : Int)
theorem got_succ (l : List UInt8) (zs : List Int) (k : Nat) : got l zs (k + 1) = got l zs k ++ [.int .u64 (Om.at_ l zs k : Int)] := by simp [got, List.range_succ]

set_option maxHeartbeats 800000 in
theorem rget_any (l : List UInt8) (zs : List Int) (B : Nat) (a : Option Addr) (n cap : Nat) (w : World) (hl : zs.length = n) (hn : n ≤ 1099511627776) (hll : l.length ≤ 4611686018427387904) (hB : B ≤ w.heap.size) (hr : Row w B a n (szs zs)) :
    Calls Try.prog 36 #[.string (Om.B l), .slice a n cap] w (RGetIs l zs n w) := by
  obtain ⟨i0, hi, hz0, hz1, hz2⟩ := info_parts info_u64
  have HL := Lib.hid hl
  have HR := Lib.hid hr
  clear hl hr
  go_enter Try.func36, Try.ntmps36
  go_wp2
  go_loop [7] (fun i => ∃ k : Nat, k ≤ n ∧ i = .int .i64 k ∧ Hid (∀ i, i < k → Om.sizeOk (zs.getD i 0) = true)) (fun i => n - (intOf i).toNat)
  case atStart => exact ⟨0, Nat.zero_le _, rfl, Lib.hid (fun i hi => absurd hi (by omega))⟩
  case round =>
    obtain ⟨k, hk, rfl, hall⟩ := hrel
    by_cases hlt : k < n
    · obtain ⟨b, off, rfl, hb, hc⟩ := HR.out (by omega)
      have hcell := hc k hlt
      unfold szs at hcell
      clear hc
      obtain ⟨x, hx⟩ : ∃ x, x = zs.getD k 0 := ⟨_, rfl⟩
      rw [← hx] at hcell
      by_cases hz : 0 ≤ x ∧ x ≤ 8
      · have HX := Lib.hid hx
        have hx0 : decide (x < 0) = false := by simp; omega
        have hx8 : decide (8 < x) = false := by simp; omega
        clear hx
        go_wp2
        go_round
        case rel => exact ⟨k + 1, by omega, by go_num, Lib.hid (fun i hi => by
          by_cases e : i = k
          · subst e; rw [← HX.out, Om.sizeOk_iff]; exact hz
          · exact hall.out i (by omega))⟩
        case measure => simp [intOf]; omega
      · have hno : Om.sizesOk zs = false := sizesOk_not zs k (by rw [HL.out]; exact hlt) (by rw [← hx]; exact hz)
        have HNO := Lib.hid hno
        clear hno hx
        by_cases hx0 : x < 0
        · have hx0' : decide (x < 0) = true := by simpa using hx0
          clear hz
          go_wp2
          go_ret3
          exact .inl ⟨HNO.out, rfl, Below.refl _ _⟩
        · have hx0' : decide (x < 0) = false := by simpa using hx0
          have hx8 : decide (8 < x) = true := by simp; omega
          clear hz
          go_wp2
          go_ret3
          exact .inl ⟨HNO.out, rfl, Below.refl _ _⟩
    · obtain rfl : k = n := by omega
      have hyes : Om.sizesOk zs = true := sizesOk_of zs (fun i hi => hall.out i (by rw [HL.out] at hi; exact hi))
      have HOK := Lib.hid hyes
      clear hyes hall
      go_wp2
      go_loopw [0, 8, 9] (fun s v i wr => ∃ j : Nat, j ≤ k ∧ i = .int .i64 j ∧ s = .string (Om.B (l.drop (Om.off zs j))) ∧ Om.off zs j ≤ l.length ∧ wr.ownsRow w.heap.size 38 1 v j (got l zs j) ∧ Below w.heap.size w wr) (fun _ _ i _ => k - (intOf i).toNat)
      case atStart => exact ⟨0, Nat.zero_le _, rfl, by rw [Om.off_zero]; rfl, by rw [Om.off_zero]; omega, World.ownsRow_nil _ _ _ _, Below.refl _ _⟩
      case round =>
        obtain ⟨j, hj, rfl, rfl, hoff, hown, hbel⟩ := hrel
        have HB := Lib.hid hbel
        have HOFF := Lib.hid hoff
        have hsz := hbel.size
        clear hbel hoff
        by_cases hlt' : j < k
        · obtain ⟨ab, ao, rfl, hab, hac⟩ := HR.out (by omega)
          obtain ⟨d, hd⟩ : ∃ d : Nat, zs.getD j 0 = (d : Int) := Int.eq_ofNat_of_zero_le (Om.sizes_at zs HOK.out j).1
          have hd8 : d ≤ 8 := by have := (Om.sizes_at zs HOK.out j).2; omega
          have hcz : wr.cell? ⟨ab, ao + j, none⟩ = some (.int .i64 (d : Int)) := by
            rw [HB.out.cell (p := ⟨ab, ao + j, none⟩) (Nat.lt_of_lt_of_le hab hB), hac j hlt', szs, hd]
          have hos : Om.off zs (j + 1) = Om.off zs j + d := by rw [Om.off_succ zs j (by rw [HL.out]; exact hlt'), hd, Int.toNat_natCast]
          have hat : Om.at_ l zs j = Om.num ((l.drop (Om.off zs j)).take d) := by unfold Om.at_; rw [hd, Int.toNat_natCast]
          have HOS := Lib.hid hos
          have HAT := Lib.hid hat
          have hzab : ab < wr.heap.size := Nat.lt_of_lt_of_le hab (Nat.le_trans hB hsz)
          have HAB := Lib.hid hab
          clear hac hd hos hat hab
          obtain ⟨r, hrr⟩ : ∃ r, r = l.drop (Om.off zs j) := ⟨_, rfl⟩
          have HRR := Lib.hid hrr
          rw [← hrr] at HAT
          rw [← hrr]
          clear hrr
          by_cases hf : d ≤ r.length
          · have hs1 : ¬ (Om.B r).size < d := by rw [Om.B_size]; omega
            have hs2 : d ≤ (Om.B r).size := by rw [Om.B_size]; omega
            have he1 : (Om.B r).extract 0 d = Om.B (r.take d) := by rw [Om.extract_front, Om.L_B]
            have he2 : (Om.B r).extract d (Om.B r).size = Om.B (r.drop d) := by rw [Om.extract_end, Om.L_B]
            have HF := Lib.hid hf
            clear hf
            go_wp2_with (first | (go_at_call 48; refine (number_any (r.take d) _ (by rw [List.length_take]; omega)).mono ?_; rintro e w' ⟨rfl, rfl⟩) | (at_builtin; refine wpList_append_own _ rfl _ _ 41 rfl w.heap.size 38 i0 (.int .u64 0) 1 8 Try.underlying41 hi hz0 hz1 hz2 rfl (by decide) _ _ _ rfl (hown.alloc _) ⟨wr.heap.size, 0, none⟩ 1 1 [.int .u64 (Om.num (r.take d) : Int)] rfl rfl ?c1 ?c2 ?c3 ?c4 ?c5 ?_))
            case c1 =>
              intro q u hq
              match q, hq with
              | 0, hq => simp at hq; subst hq; simp [Addr.add]
            case c2 => intro u hu; simp at hu; subst hu; rfl
            case c3 => unfold maxLen; omega
            case c4 => omega
            case c5 => simp; omega
            intro v' w1 hown' hgrow _
            have hbel1 : Below w.heap.size w w1 := (HB.out.alloc hsz _).grown hgrow (by simp; omega) (fun q hq => (hown.lt q hq).1)
            rw [← HAT.out, ← got_succ] at hown'
            have hcz' : w1.cell? ⟨ab, ao + j, none⟩ = some (.int .i64 (d : Int)) := by
              rw [hbel1.cell (p := ⟨ab, ao + j, none⟩) (Nat.lt_of_lt_of_le HAB.out hB), ← HB.out.cell (p := ⟨ab, ao + j, none⟩) (Nat.lt_of_lt_of_le HAB.out hB)]
              exact hcz
            have HB1 := Lib.hid hbel1
            have HO1 := Lib.hid hown'
            clear hgrow hown hcz hbel1 hown'
            go_wp2
            go_roundw
            case rel => exact ⟨j + 1, by omega, by go_num, by rw [HOS.out, ← List.drop_drop, ← HRR.out], by
                have := HF.out
                rw [HRR.out, List.length_drop] at this
                have := HOFF.out
                rw [HOS.out]; omega, HO1.out, HB1.out⟩
            case measure => simp [intOf]; omega
          · have hs1 : (Om.B r).size < d := by rw [Om.B_size]; omega
            have hbad : ¬ Om.off zs k ≤ l.length := by
              have h1 := Om.off_mono zs (j + 1) k (by omega)
              have h2 := HOS.out
              have h3 := HRR.out
              subst h3
              rw [List.length_drop] at hf
              omega
            have HBAD := Lib.hid hbad
            clear hbad hf
            go_wp2
            go_ret3
            exact .inr (.inl ⟨HOK.out, HBAD.out, rfl, HB.out⟩)
        · obtain rfl : j = k := by omega
          have hform : ∃ a c, u8 = .slice a j c := by
            rcases hown.2 with ⟨hv, h0⟩ | ⟨g, c, cur, hv, _⟩
            · subst h0; exact ⟨none, 0, hv⟩
            · exact ⟨_, c, hv⟩
          obtain ⟨a', c', rfl⟩ := hform
          have HO := Lib.hid hown
          clear hown
          go_wp2
          go_ret3
          exact .inr (.inr ⟨HOK.out, HOFF.out, a', c', rfl, Row.own HO.out (fun i hi => by simp [got, hi]), HB.out⟩)

theorem rget_sizes (l : List UInt8) (zs : List Int) (B : Nat) (a : Option Addr) (n cap : Nat) (w : World) (hl : zs.length = n) (hn : n ≤ 1099511627776) (hll : l.length ≤ 4611686018427387904) (hB : B ≤ w.heap.size) (hr : Row w B a n (szs zs)) (hok : Om.sizesOk zs = false) :
    Calls Try.prog 36 #[.string (Om.B l), .slice a n cap] w fun e w' => e = .returned (.tuple #[.slice none 0 0, .string (Om.B []), .int .i64 1]) ∧ Below w.heap.size w w' :=
  (rget_any l zs B a n cap w hl hn hll hB hr).mono fun e w' h => by
    rcases h with h | h | h
    · exact h.2
    · rw [hok] at h; exact absurd h.1 (by decide)
    · rw [hok] at h; exact absurd h.1 (by decide)
theorem rget_few (l : List UInt8) (zs : List Int) (B : Nat) (a : Option Addr) (n cap : Nat) (w : World) (hl : zs.length = n) (hn : n ≤ 1099511627776) (hll : l.length ≤ 4611686018427387904) (hB : B ≤ w.heap.size) (hr : Row w B a n (szs zs)) (hok : Om.sizesOk zs = true) (ho : ¬ Om.off zs n ≤ l.length) :
    Calls Try.prog 36 #[.string (Om.B l), .slice a n cap] w fun e w' => e = .returned (.tuple #[.slice none 0 0, .string (Om.B []), .int .i64 21]) ∧ Below w.heap.size w w' :=
  (rget_any l zs B a n cap w hl hn hll hB hr).mono fun e w' h => by
    rcases h with h | h | h
    · rw [hok] at h; exact absurd h.1 (by decide)
    · exact h.2.2
    · exact absurd h.2.1 ho
theorem rget_ok (l : List UInt8) (zs : List Int) (B : Nat) (a : Option Addr) (n cap : Nat) (w : World) (hl : zs.length = n) (hn : n ≤ 1099511627776) (hll : l.length ≤ 4611686018427387904) (hB : B ≤ w.heap.size) (hr : Row w B a n (szs zs)) (hok : Om.sizesOk zs = true) (ho : Om.off zs n ≤ l.length) :
    Calls Try.prog 36 #[.string (Om.B l), .slice a n cap] w (RGetOk l zs n w) :=
  (rget_any l zs B a n cap w hl hn hll hB hr).mono fun e w' h => by
    rcases h with h | h | h
    · rw [hok] at h; exact absurd h.1 (by decide)
    · exact absurd ho h.2.1
    · exact h.2.2
end Go.Proofs.Ytncbimgbjkdocaa
