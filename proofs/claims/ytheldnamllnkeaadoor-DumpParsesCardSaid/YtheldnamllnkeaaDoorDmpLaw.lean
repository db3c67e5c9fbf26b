/- Contracts of the statements' own small calls: fits, texts, lines. -/
import Derived.Test.YtheldnamllnkeaaDoorDmpParse
import Derived.WalkSpells
namespace Go.Proofs.YtheldnamllnkeaaDoor
namespace Pd
open Go.RowKit Dsk
set_option maxRecDepth 100000
set_option linter.unusedVariables false

/-- Is a report such as is gone through? -/
def fitB (r : Rp) : Bool := (r.ls.all fun x => decide (x.es.length ≤ 60)) && decide (r.ls.length ≤ 60)
theorem fitB_yes {r : Rp} (h : fitB r = true) : r.ls.length ≤ 60 ∧ ∀ x ∈ r.ls, x.es.length ≤ 60 := by
  unfold fitB at h
  simp only [Bool.and_eq_true, List.all_eq_true, decide_eq_true_eq] at h
  exact ⟨h.2, h.1⟩
theorem fitB_not {r : Rp} {k : Nat} {x : Ln} (hx : r.ls[k]? = some x) (h : ¬ x.es.length ≤ 60) : fitB r = false := by
  unfold fitB
  have : (r.ls.all fun x => decide (x.es.length ≤ 60)) = false := by
    rw [List.all_eq_false]
    exact ⟨x, List.mem_of_getElem? hx, by simpa using h⟩
  rw [this, Bool.false_and]
theorem fitB_all {r : Rp} (h : ∀ (k : Nat) x, r.ls[k]? = some x → x.es.length ≤ 60) : fitB r = decide (r.ls.length ≤ 60) := by
  unfold fitB
  have : (r.ls.all fun x => decide (x.es.length ≤ 60)) = true := by
    rw [List.all_eq_true]
    intro x hx
    obtain ⟨k, hk⟩ := List.getElem?_of_mem hx
    simpa using h k x hk
  rw [this, Bool.true_and]
set_option maxHeartbeats 1000000 in
theorem fits_any (r : Rp) (a : Option Addr) (c : Nat) (w : World) (hl : RLns w a r.ls) (hn : r.ls.length ≤ 9223372036854775807) (hes : ∀ x ∈ r.ls, x.es.length ≤ 9223372036854775807) :
    Calls Tryd.prog 6 #[Rv r a c] w fun e w' => e = .returned (.bool (fitB r)) ∧ Below w.heap.size w w' := by
  obtain ⟨W0, hW0⟩ : ∃ W0, w.alloc (.cells #[.int .i64 r.s, .int .i64 r.o, .int .i64 r.c, .slice a r.ls.length c] 26) = W0 := ⟨_, rfl⟩
  have hB : Below w.heap.size w W0 := by rw [← hW0]; exact (Below.refl _ _).alloc (Nat.le_refl _) _
  have hR : W0.heap[w.heap.size]? = some (.cells #[.int .i64 r.s, .int .i64 r.o, .int .i64 r.c, .slice a r.ls.length c] 26 (0, 0)) := by rw [← hW0]; exact heap_alloc_new _ _
  obtain ⟨n, hnn⟩ : ∃ n, n = r.ls.length := ⟨_, rfl⟩
  have c3 : W0.cell? ⟨w.heap.size, 3, none⟩ = some (.slice a n c) := by rw [cell_of_row _ _ _ _ _ _ hR, hnn]; rfl
  have HB := Lib.hid hB
  have NN := Lib.hid hnn
  have RL := Lib.hid (hl.below hB)
  have HES := Lib.hid hes
  rw [← hnn] at hn
  unfold Rv
  clear hl hB hR hes
  go_enter Tryd.func6, Tryd.ntmps6
  go_wp2
  clear hW0 hnn
  go_loop [3] (fun i => ∃ k : Nat, k ≤ n ∧ i = .int .i64 k ∧ Hid (∀ (j : Nat) x, j < k → r.ls[j]? = some x → x.es.length ≤ 60)) (fun i => n - (Lib.intOf i).toNat)
  case atStart => exact ⟨0, Nat.zero_le _, rfl, Lib.hid fun j x hj => absurd hj (Nat.not_lt_zero _)⟩
  case round =>
    obtain ⟨k, hk, rfl, hall⟩ := hrel
    by_cases hlt : k < n
    · have hkl : k < r.ls.length := by rw [← NN.out]; exact hlt
      obtain ⟨x, hx⟩ : ∃ x, x = r.ls[k] := ⟨_, rfl⟩
      have HX : Hid (r.ls[k]? = some x) := Lib.hid (by rw [hx]; exact List.getElem?_eq_getElem hkl)
      obtain ⟨b, off, ea, ec, rfl, hbl, hrg, hre⟩ := RL.out.get HX.out
      have c7 : W0.cell? ⟨b, off + k * 8 + 7, none⟩ = some (.slice ea x.es.length ec) := hrg 7 _ rfl
      obtain ⟨m, hm⟩ : ∃ m, m = x.es.length := ⟨_, rfl⟩
      have hmb : m ≤ 9223372036854775807 := by rw [hm]; exact HES.out x (List.mem_of_getElem? HX.out)
      rw [← hm] at c7
      have HM := Lib.hid hm
      have HKN := Lib.hid hlt
      have d1 : decide ((k : Int) < (n : Int)) = true := by simp; omega
      have d1' : decide (k < n) = true := by simp; omega
      have k0 : (0 : Int) ≤ (k : Int) := by omega
      have k1 : (k : Int) < (n : Int) := by omega
      have hw1 : IntKind.i64.wrap ((k : Int) + 1) = ((k + 1 : Nat) : Int) := by rw [IntWalk.i64_in _ (by omega)]; rfl
      clear hx hkl hrg hre hbl hm
      by_cases h60 : m ≤ 60
      · have d2 : decide (60 < (m : Int)) = false := by simp; omega
        have d2' : decide (60 < m) = false := by simp; omega
        have HM60 := Lib.hid h60
        clear h60
        go_wp2
        go_round
        case rel => exact ⟨k + 1, by have := HKN.out; omega, by go_num, Lib.hid fun j y hj hy => by
          by_cases e : j = k
          · subst e
            rw [HX.out] at hy
            cases hy
            rw [← HM.out]
            exact HM60.out
          · exact hall.out j y (by omega) hy⟩
        case measure => have := HKN.out; simp [Lib.intOf]; omega
      · have d2 : decide (60 < (m : Int)) = true := by simp; omega
        have d2' : decide (60 < m) = true := by simp; omega
        have NF : Hid (fitB r = false) := Lib.hid (fitB_not HX.out (by rw [← HM.out]; exact h60))
        clear h60
        go_wp2
        go_ret
        exact ⟨by rw [NF.out]; rfl, HB.out⟩
    · obtain rfl : k = n := by omega
      have d1 : decide ((k : Int) < (k : Int)) = false := by simp
      have d1' : decide (k < k) = false := by simp
      have FA : Hid (fitB r = decide (k ≤ 60)) := Lib.hid (by rw [NN.out]; exact fitB_all fun j x hx => hall.out j x (by rw [NN.out]; exact (List.getElem?_eq_some_iff.1 hx).1) hx)
      by_cases h60 : k ≤ 60
      · have d3 : decide ((k : Int) ≤ 60) = true := by simp; omega
        have d3' : decide (k ≤ 60) = true := by simp; omega
        have FT : Hid (fitB r = true) := Lib.hid (by rw [FA.out]; exact d3')
        clear h60
        go_wp2
        go_ret
        exact ⟨by rw [FT.out]; rfl, HB.out⟩
      · have d3 : decide ((k : Int) ≤ 60) = false := by simp; omega
        have d3' : decide (k ≤ 60) = false := by simp; omega
        have FT : Hid (fitB r = false) := Lib.hid (by rw [FA.out]; exact d3')
        clear h60
        go_wp2
        go_ret
        exact ⟨by rw [FT.out]; rfl, HB.out⟩
/-- Are lines such as are gone through? -/
def textB (l : List (List UInt8)) : Bool := (l.all fun x => decide (x.length ≤ 200)) && decide (l.length ≤ 60)
theorem textB_yes {l : List (List UInt8)} (h : textB l = true) : l.length ≤ 60 ∧ ∀ x ∈ l, x.length ≤ 200 := by
  unfold textB at h
  simp only [Bool.and_eq_true, List.all_eq_true, decide_eq_true_eq] at h
  exact ⟨h.2, h.1⟩
theorem textB_not {l : List (List UInt8)} {k : Nat} {x : List UInt8} (hx : l[k]? = some x) (h : ¬ x.length ≤ 200) : textB l = false := by
  unfold textB
  have : (l.all fun x => decide (x.length ≤ 200)) = false := by
    rw [List.all_eq_false]
    exact ⟨x, List.mem_of_getElem? hx, by simpa using h⟩
  rw [this, Bool.false_and]
theorem textB_all {l : List (List UInt8)} (h : ∀ (k : Nat) x, l[k]? = some x → x.length ≤ 200) : textB l = decide (l.length ≤ 60) := by
  unfold textB
  have : (l.all fun x => decide (x.length ≤ 200)) = true := by
    rw [List.all_eq_true]
    intro x hx
    obtain ⟨k, hk⟩ := List.getElem?_of_mem hx
    simpa using h k x hk
  rw [this, Bool.true_and]
set_option maxHeartbeats 1000000 in
theorem texts_any (l : List (List UInt8)) (a : Option Addr) (c : Nat) (w : World) (hl : SRow w a l) (hn : l.length ≤ 9223372036854775807) (hes : ∀ x ∈ l, x.length ≤ 9223372036854775807) :
    Calls Tryd.prog 12 #[.slice a l.length c] w fun e w' => e = .returned (.bool (textB l)) ∧ w = w' := by
  obtain ⟨n, hnn⟩ : ∃ n, n = l.length := ⟨_, rfl⟩
  have NN := Lib.hid hnn
  have RL := Lib.hid hl
  have HES := Lib.hid hes
  rw [← hnn] at hn ⊢
  clear hl hes hnn
  go_enter Tryd.func12, Tryd.ntmps12
  go_wp2
  go_loop [3] (fun i => ∃ k : Nat, k ≤ n ∧ i = .int .i64 k ∧ Hid (∀ (j : Nat) x, j < k → l[j]? = some x → x.length ≤ 200)) (fun i => n - (Lib.intOf i).toNat)
  case atStart => exact ⟨0, Nat.zero_le _, rfl, Lib.hid fun j x hj => absurd hj (Nat.not_lt_zero _)⟩
  case round =>
    obtain ⟨k, hk, rfl, hall⟩ := hrel
    by_cases hlt : k < n
    · have hkl : k < l.length := by rw [← NN.out]; exact hlt
      obtain ⟨x, hx⟩ : ∃ x, x = l[k] := ⟨_, rfl⟩
      have HX : Hid (l[k]? = some x) := Lib.hid (by rw [hx]; exact List.getElem?_eq_getElem hkl)
      obtain ⟨b, off, rfl, hbl, hcc⟩ := RL.out (by rintro rfl; simp at hkl)
      have c7 := hcc k x HX.out
      obtain ⟨s, hs⟩ : ∃ s, s = Om.B x := ⟨_, rfl⟩
      rw [← hs] at c7
      obtain ⟨m, hm⟩ : ∃ m, m = s.size := ⟨_, rfl⟩
      have HM : Hid (m = x.length) := Lib.hid (by rw [hm, hs]; rfl)
      have hmb : m ≤ 9223372036854775807 := by rw [HM.out]; exact HES.out x (List.mem_of_getElem? HX.out)
      have HKN := Lib.hid hlt
      have d1 : decide ((k : Int) < (n : Int)) = true := by simp; omega
      have d1' : decide (k < n) = true := by simp; omega
      have k0 : (0 : Int) ≤ (k : Int) := by omega
      have k1 : (k : Int) < (n : Int) := by omega
      have hw1 : IntKind.i64.wrap ((k : Int) + 1) = ((k + 1 : Nat) : Int) := by rw [IntWalk.i64_in _ (by omega)]; rfl
      have HMS := Lib.hid hm
      clear hx hkl hbl hcc hs hm
      by_cases h60 : m ≤ 200
      · have hss : s.size ≤ 200 := by rw [← HMS.out]; exact h60
        have d2 : decide (200 < (s.size : Int)) = false := by simp; omega
        have d2' : decide (200 < s.size) = false := by simp; omega
        have HM60 := Lib.hid h60
        clear h60
        go_wp2
        go_round
        case rel => exact ⟨k + 1, by have := HKN.out; omega, by go_num, Lib.hid fun j y hj hy => by
          by_cases e : j = k
          · subst e
            rw [HX.out] at hy
            cases hy
            rw [← HM.out]
            exact HM60.out
          · exact hall.out j y (by omega) hy⟩
        case measure => have := HKN.out; simp [Lib.intOf]; omega
      · have hss : ¬ s.size ≤ 200 := by rw [← HMS.out]; exact h60
        have d2 : decide (200 < (s.size : Int)) = true := by simp; omega
        have d2' : decide (200 < s.size) = true := by simp; omega
        have NF : Hid (textB l = false) := Lib.hid (textB_not HX.out (by rw [← HM.out]; exact h60))
        clear h60
        go_wp2
        go_ret
        exact ⟨by rw [NF.out]; rfl, rfl⟩
    · obtain rfl : k = n := by omega
      have d1 : decide ((k : Int) < (k : Int)) = false := by simp
      have d1' : decide (k < k) = false := by simp
      have FA : Hid (textB l = decide (k ≤ 60)) := Lib.hid (by rw [NN.out]; exact textB_all fun j x hx => hall.out j x (by rw [NN.out]; exact (List.getElem?_eq_some_iff.1 hx).1) hx)
      by_cases h60 : k ≤ 60
      · have d3 : decide ((k : Int) ≤ 60) = true := by simp; omega
        have d3' : decide (k ≤ 60) = true := by simp; omega
        have FT : Hid (textB l = true) := Lib.hid (by rw [FA.out]; exact d3')
        clear h60
        go_wp2
        go_ret
        exact ⟨by rw [FT.out]; rfl, rfl⟩
      · have d3 : decide ((k : Int) ≤ 60) = false := by simp; omega
        have d3' : decide (k ≤ 60) = false := by simp; omega
        have FT : Hid (textB l = false) := Lib.hid (by rw [FA.out]; exact d3')
        clear h60
        go_wp2
        go_ret
        exact ⟨by rw [FT.out]; rfl, rfl⟩
set_option maxHeartbeats 1000000 in
theorem lines_same (l : List (List UInt8)) (a b : Option Addr) (c d : Nat) (w : World) (h1 : SRow w a l) (h2 : SRow w b l) (hn : l.length ≤ 1000000) :
    Calls Tryd.prog 11 #[.slice a l.length c, .slice b l.length d] w fun e w' => e = .returned (.bool true) ∧ Below w.heap.size w w' := by
  obtain ⟨n, hnn⟩ : ∃ n, n = l.length := ⟨_, rfl⟩
  have NN := Lib.hid hnn
  have R1 := Lib.hid h1
  have R2 := Lib.hid h2
  rw [← hnn] at hn ⊢
  have hne : (((n : Nat) : Int) != (n : Int)) = false := by simp
  clear h1 h2 hnn
  go_enter Tryd.func11, Tryd.ntmps11
  go_wp2
  go_loopw [5] (fun i wr => ∃ k : Nat, k ≤ n ∧ i = .int .i64 k ∧ Hid (Below w.heap.size w wr)) (fun i _ => n - (Lib.intOf i).toNat)
  case atStart => exact ⟨0, Nat.zero_le _, rfl, Lib.hid (Below.refl _ _)⟩
  case round =>
    obtain ⟨k, hk, rfl, hw⟩ := hrel
    by_cases hlt : k < n
    · have hkl : k < l.length := by rw [← NN.out]; exact hlt
      obtain ⟨x, hx⟩ : ∃ x, x = l[k] := ⟨_, rfl⟩
      have HX : Hid (l[k]? = some x) := Lib.hid (by rw [hx]; exact List.getElem?_eq_getElem hkl)
      obtain ⟨ab, ao, rfl, hab, hca⟩ := R1.out.below hw.out (by rintro rfl; simp at hkl)
      obtain ⟨bb, bo, rfl, hbb, hcb⟩ := R2.out.below hw.out (by rintro rfl; simp at hkl)
      have c1 := hca k _ HX.out
      have c2 := hcb k _ HX.out
      obtain ⟨s, hs⟩ : ∃ s, s = Om.B x := ⟨_, rfl⟩
      rw [← hs] at c1 c2
      have be : (s.toList != s.toList) = false := by simp
      have be2 : (s.toList == s.toList) = true := by simp
      have HKN := Lib.hid hlt
      have d1 : decide ((k : Int) < (n : Int)) = true := by simp; omega
      have d1' : decide (k < n) = true := by simp; omega
      have k0 : (0 : Int) ≤ (k : Int) := by omega
      have k1 : (k : Int) < (n : Int) := by omega
      have hw1 : IntKind.i64.wrap ((k : Int) + 1) = ((k + 1 : Nat) : Int) := by rw [IntWalk.i64_in _ (by omega)]; rfl
      clear hx hkl hab hbb hca hcb hs
      go_wp2
      go_quiet (fail)
      go_wp2
      go_roundw
      case rel => exact ⟨k + 1, by have := HKN.out; omega, by go_num, Lib.hid (by first | exact below_drewN hw.out _ | exact hw.out)⟩
      case measure => have := HKN.out; simp [Lib.intOf]; omega
    · obtain rfl : k = n := by omega
      have d1 : decide ((k : Int) < (k : Int)) = false := by simp
      have d1' : decide (k < k) = false := by simp
      go_wp2
      go_ret
      exact ⟨rfl, hw.out⟩
end Pd
end Go.Proofs.YtheldnamllnkeaaDoor
