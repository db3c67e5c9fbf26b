/- The document's own lines: figures, a form filled in. -/
import Derived.Test.YtheldnamllnkeaaDoorDmpStr
import Derived.BigQuiet
namespace Go.Proofs.YtheldnamllnkeaaDoor
namespace Pd
open Go.RowKit Dsk Go.Maps
set_option maxRecDepth 100000
set_option linter.unusedVariables false

theorem str_one (W : World) (y : Nat) (hy : y < 256) : (convert 93 9 (.slice (some ⟨W.heap.size, 0, none⟩) 1 1)).run Tryd.prog (W.alloc (.cells #[.int .u8 (y : Int)] 5)) = .ok (.string (Om.B [UInt8.ofNat y])) (W.alloc (.cells #[.int .u8 (y : Int)] 5)) := by
  have e : (y : Int) = ((UInt8.ofNat y).toNat : Int) := by rw [UInt8.toNat_ofNat']; omega
  rw [e]
  exact run_convert_bytes_back (P := Tryd.prog) (W.alloc (.cells #[.int .u8 ((UInt8.ofNat y).toNat : Int)] 5)) 93 9 5 ⟨W.heap.size, 0, none⟩ 1 [UInt8.ofNat y] Tryd.underlying93 Tryd.underlying5 Tryd.underlying9 (fun i hi => by
    have : i = 0 := by simpa using hi
    subst this
    simp [Addr.add])
theorem digits_step {n : Nat} (h : ¬ n < 10) : Lib.decDigits n = Lib.decDigits (n / 10) ++ [UInt8.ofNat (48 + n % 10)] := by
  rw [Lib.decDigits, dif_neg h]
set_option maxHeartbeats 1000000 in
theorem figures_any (n : Nat) : ∀ (hn : n ≤ 4294967295) (w : World), Calls Tryd.prog 32 #[.int .i64 (n : Int)] w fun e w' => e = .returned (.string (Om.B (Lib.decDigits n))) ∧ Below w.heap.size w w' := by
  induction n using Nat.strongRecOn with
  | ind n ih =>
    intro hn w
    have IH := Lib.hid ih
    clear ih
    obtain ⟨s, hs0⟩ : ∃ s, s = Om.B [UInt8.ofNat (48 + n % 10)] := ⟨_, rfl⟩
    have hs : (convert 93 9 (.slice (some ⟨w.heap.size, 0, none⟩) 1 1)).run Tryd.prog (w.alloc (.cells #[.int .u8 (48 + (n : Int) % 10)] 5)) = .ok (.string s) (w.alloc (.cells #[.int .u8 (48 + (n : Int) % 10)] 5)) := by
      have e8 : (48 + (n : Int) % 10) = ((48 + n % 10 : Nat) : Int) := by omega
      rw [e8, hs0]
      exact str_one w (48 + n % 10) (by omega)
    have S0 := Lib.hid hs0
    have HN := Lib.hid hn
    have BA : ∀ o, Hid (Below w.heap.size w (w.alloc o)) := fun o => Lib.hid ((Below.refl _ _).alloc (Nat.le_refl _) _)
    clear hs0
    by_cases h10 : n < 10
    · have d1 : decide (10 ≤ (n : Int)) = false := by simp; omega
      have d2 : ¬ (10 ≤ (n : Int)) := by omega
      have H10 := Lib.hid h10
      go_enter Tryd.func32, Tryd.ntmps32
      go_wp2_with fail
      go_ret
      refine ⟨?_, (BA _).out⟩
      show Ending.returned (.string s) = _
      rw [S0.out, Lib.decDigits_one H10.out, Nat.mod_eq_of_lt H10.out]
    · have d1 : decide (10 ≤ (n : Int)) = true := by simp; omega
      have d2 : 10 ≤ (n : Int) := by omega
      have H10 := Lib.hid h10
      have F : Hid (∀ w, Calls Tryd.prog 32 #[.int .i64 ((n : Int) / 10)] w fun e w' => e = .returned (.string (Om.B (Lib.decDigits (n / 10)))) ∧ Below w.heap.size w w') := Lib.hid fun w => by
        have h := IH.out (n / 10) (by omega) (by omega) w
        rwa [show ((n / 10 : Nat) : Int) = (n : Int) / 10 from by omega] at h
      go_enter Tryd.func32, Tryd.ntmps32
      go_wp2_with fail
      refine (F.out _).mono ?_
      rintro e w1 ⟨rfl, hb⟩
      have HB := Lib.hid (bgo (BA (.cells #[.int .u8 (48 + (n : Int) % 10)] 5)).out (Nat.le_refl _) hb)
      have hov : ¬ 9223372036854775807 < (Om.B (Lib.decDigits (n / 10))).size + s.size := by
        have h1 := digits_length (n / 10) (by omega)
        have h2 : ([UInt8.ofNat (48 + n % 10)] : List UInt8).length = 1 := rfl
        rw [S0.out, Om.B_size, Om.B_size, h2]
        omega
      clear hb hs
      go_wp2
      go_ret
      refine ⟨?_, HB.out⟩
      show Ending.returned (.string _) = _
      rw [S0.out, digits_step H10.out]
      first | rw [Om.B_append] | simp [Om.B]
/-- A form's slot line. -/
def formS (mg iv : Bool) : List UInt8 := (if mg then [115, 108, 111, 116, 32, 35, 32, 109, 101, 114, 103, 105, 110, 103, 32, 35, 32, 35, 32, 103, 101, 110, 32, 35, 32, 114, 111, 111, 109, 32, 35] else [115, 108, 111, 116, 32, 35, 32, 117, 115, 101, 100, 32, 35, 32, 35, 32, 103, 101, 110, 32, 35, 32, 114, 111, 111, 109, 32, 35]) ++ (if iv then [32, 105, 110, 118, 97, 108, 105, 100] else [])
theorem forms_any (mg iv : Bool) (w : World) : Calls Tryd.prog 21 #[.bool mg, .bool iv] w fun e w' => e = .returned (.string (Om.B (formS mg iv))) ∧ w = w' := by
  cases mg <;> cases iv
  all_goals
    go_enter Tryd.func21, Tryd.ntmps21
    go_wp2
    go_ret
    exact ⟨rfl, rfl⟩
/-- Ints in a row. -/
def IRow (w : World) (g : Nat) (l : List Int) : Prop := ∀ (i : Nat) z, l[i]? = some z → w.cell? ⟨g, i, none⟩ = some (.int .i64 z)
theorem in_any (l : List Int) (g : Nat) (w : World) (hl : IRow w g l) (hn : l.length ≤ 1000) : Calls Tryd.prog 19 #[.slice (some ⟨g, 0, none⟩) l.length l.length] w fun e w' => e = .returned (.bool (l.all okN)) ∧ w = w' := by
  obtain ⟨n, hnn⟩ : ∃ n, n = l.length := ⟨_, rfl⟩
  have NN := Lib.hid hnn
  have R := Lib.hid hl
  rw [← hnn] at hn ⊢
  clear hl hnn
  go_enter Tryd.func19, Tryd.ntmps19
  go_wp2
  go_loopw [3] (fun i wr => ∃ k : Nat, k ≤ n ∧ i = .int .i64 k ∧ Hid ((l.take k).all okN = true) ∧ wr = w) (fun i _ => n - (Lib.intOf i).toNat)
  case atStart => exact ⟨0, Nat.zero_le _, rfl, Lib.hid rfl, rfl⟩
  case round =>
    obtain ⟨k, hk, rfl, hall, rfl⟩ := hrel
    by_cases hlt : k < n
    · have hkl : k < l.length := by rw [← NN.out]; exact hlt
      obtain ⟨z, hz⟩ : ∃ z, z = l[k] := ⟨_, rfl⟩
      have HZ : Hid (l[k]? = some z) := Lib.hid (by rw [hz]; exact List.getElem?_eq_getElem hkl)
      have hc := R.out k z HZ.out
      have HKN := Lib.hid hlt
      have d1 : decide ((k : Int) < (n : Int)) = true := by simp; omega
      have d1' : decide (k < n) = true := by simp; omega
      have k0 : (0 : Int) ≤ (k : Int) := by omega
      have k1 : (k : Int) < (n : Int) := by omega
      have hw1 : IntKind.i64.wrap ((k : Int) + 1) = ((k + 1 : Nat) : Int) := by rw [IntWalk.i64_in _ (by omega)]; rfl
      clear hz hkl
      by_cases h1 : z < 0
      · have NO : Hid (l.all okN = false) := Lib.hid (List.all_eq_false.2 ⟨z, List.mem_of_getElem? HZ.out, by rw [okN_iff]; omega⟩)
        have d2 : decide (z < 0) = true := by simp; omega
        clear h1
        go_wp2
        go_ret
        exact ⟨by rw [NO.out]; rfl, rfl⟩
      · by_cases h2 : 4294967295 < z
        · have NO : Hid (l.all okN = false) := Lib.hid (List.all_eq_false.2 ⟨z, List.mem_of_getElem? HZ.out, by rw [okN_iff]; omega⟩)
          have d2 : decide (z < 0) = false := by simp; omega
          have d3 : decide (4294967295 < z) = true := by simp; omega
          clear h1 h2
          go_wp2
          go_ret
          exact ⟨by rw [NO.out]; rfl, rfl⟩
        · have YES : Hid (okN z = true) := Lib.hid ((okN_iff z).2 (by omega))
          have d2 : decide (z < 0) = false := by simp; omega
          have d3 : decide (4294967295 < z) = false := by simp; omega
          clear h1 h2
          go_wp2
          go_roundw
          case rel =>
            refine ⟨k + 1, by have := HKN.out; omega, by go_num, Lib.hid ?_, trivial⟩
            rw [List.take_add_one, HZ.out, List.all_append, hall.out]
            simp [YES.out]
          case measure => have := HKN.out; simp [Lib.intOf]; omega
    · obtain rfl : k = n := by omega
      have d1 : decide ((k : Int) < (k : Int)) = false := by simp
      have d1' : decide (k < k) = false := by simp
      have ALL : Hid (l.all okN = true) := Lib.hid (by have h := hall.out; rw [NN.out, List.take_length] at h; exact h)
      go_wp2
      go_ret
      exact ⟨by rw [ALL.out]; rfl, rfl⟩
/-- A form, filled in. -/
def fill : List UInt8 → List Int → List UInt8
  | [], _ => []
  | c :: r, l => if c = 35 then fig (l.headD 0) ++ fill r l.tail else c :: fill r l
/-- So many numbers has a form. -/
def signs (f : List UInt8) : Nat := f.countP (fun c => c = 35)
end Pd
end Go.Proofs.YtheldnamllnkeaaDoor
