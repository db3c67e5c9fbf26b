/- The contract of command's numberOf. -/
import Derived.Test.YtdojclhcoboocaaDoorCmdForm
import Derived.Laws.RangeAny
import Derived.BigQuiet
namespace Go.Proofs.YtdojclhcoboocaaDoor
namespace Co
open Go.RowKit Go.Lib Pd
set_option maxRecDepth 100000
set_option linter.unusedVariables false

theorem drop_at' {l : List UInt8} {j : Nat} {c : UInt8} (h : l[j]? = some c) : l.drop j = c :: l.drop (j + 1) := by
  have hl := (List.getElem?_eq_some_iff.1 h).1
  rw [List.drop_eq_getElem_cons hl, (List.getElem?_eq_some_iff.1 h).2]
/-- How far a number has come. -/
def numG (acc : Nat) (l : List UInt8) : Option Nat := match Lib.parseUintM 2147483647 acc l with | .ok n => some n | _ => none
theorem numG_nil (acc : Nat) : numG acc [] = some acc := rfl
theorem numG_bad {acc : Nat} {c : UInt8} {r : List UInt8} (h : ¬ (48 ≤ c.toNat ∧ c.toNat ≤ 57)) : numG acc (c :: r) = none := by
  unfold numG
  rw [Lib.parseUintM, if_neg h]
theorem numG_step {acc : Nat} {c : UInt8} {r : List UInt8} (h : 48 ≤ c.toNat ∧ c.toNat ≤ 57) (ha : acc ≤ 2147483647) : numG acc (c :: r) = if 2147483647 < 10 * acc + (c.toNat - 48) then none else numG (10 * acc + (c.toNat - 48)) r := by
  unfold numG
  rw [Lib.parseUintM, if_pos h, if_neg (by omega), Nat.mul_comm acc 10]
  by_cases hh : 2147483647 < 10 * acc + (c.toNat - 48)
  · rw [if_pos hh, if_pos hh]
  · rw [if_neg hh, if_neg hh]
theorem numC_eq (l : List UInt8) : numC l = (numG 0 l).bind fun n => if Lib.decDigits n = l then some n else none := by
  unfold numC numG
  cases Lib.parseUintM 2147483647 0 l <;> rfl
/-- What numberOf tells. -/
def NumIs (l : List UInt8) (w : World) (e : Ending) (w' : World) : Prop := e = .returned (.tuple #[.int .i64 (((numC l).getD 0 : Nat) : Int), .bool (numC l).isSome]) ∧ Below w.heap.size w w'
theorem NumIs.no {l : List UInt8} {w w' : World} (h : numC l = none) (hb : Below w.heap.size w w') : NumIs l w (.returned (.tuple #[.int .i64 0, .bool false])) w' := ⟨by rw [h]; rfl, hb⟩
theorem NumIs.yes {l : List UInt8} {n : Nat} {w w' : World} (h : numC l = some n) (hb : Below w.heap.size w w') : NumIs l w (.returned (.tuple #[.int .i64 (n : Int), .bool true])) w' := ⟨by rw [h]; rfl, hb⟩
theorem iter_below (w : World) (s : ByteArray) (p : Nat) : Below w.heap.size w (w.iter s p) := (Below.refl _ w).alloc (Nat.le_refl _) _
set_option maxHeartbeats 2000000 in
theorem numof_any (l : List UInt8) (w : World) (hv : Vs w) (hl : l.length ≤ 4294967295) : Calls Tryd.prog 26 #[.string (Om.B l)] w (NumIs l w) := by
  obtain ⟨fs, hfs⟩ : ∃ fs, fs = Om.B l := ⟨_, rfl⟩
  obtain ⟨m, hm⟩ : ∃ m, m = l.length := ⟨_, rfl⟩
  have MM := Lib.hid hm
  have hsz : fs.size = m := by rw [hfs, Om.B_size, hm]
  have SZ := Lib.hid hsz
  have FS := Lib.hid hfs
  have V := Lib.hid hv
  have AT : Hid (∀ (j : Nat) (hj : j < fs.size) (c : UInt8), l[j]? = some c → fs[j] = c) := Lib.hid fun j hj c hc => by
    have e : ∀ (x : ByteArray) (hx : j < x.size) (hl : j < l.length), x = Om.B l → x[j] = l[j] := by rintro _ hx hl rfl; rfl
    rw [e fs hj (List.getElem?_eq_some_iff.1 hc).1 FS.out]
    exact (List.getElem?_eq_some_iff.1 hc).2
  rw [← hfs]
  clear hfs hm hv
  go_enter Tryd.func26, Tryd.ntmps26
  go_wp2_with fail
  go_loopw [4] (fun n wr => ∃ acc pos : Nat, n = .int .i64 (acc : Int) ∧ pos ≤ m ∧ acc ≤ 2147483647 ∧ Hid (numG 0 l = numG acc (l.drop pos)) ∧ wr = w.iter fs pos) (fun _ wr => m - wr.iterPos w.heap.size)
  case atStart => exact ⟨0, 0, rfl, Nat.zero_le _, by omega, Lib.hid rfl, rfl⟩
  case round =>
    obtain ⟨acc, pos, rfl, hp, hacc, hnum, rfl⟩ := hrel
    by_cases hlt : pos < m
    · have hpl : pos < l.length := by rw [← MM.out]; exact hlt
      obtain ⟨c, hc⟩ : ∃ c, l[pos]? = some c := ⟨l[pos], List.getElem?_eq_getElem hpl⟩
      have hps : pos < fs.size := by rw [hsz]; exact hlt
      have hb : fs[pos] = c := AT.out pos hps c hc
      have HD := Lib.hid (drop_at' hc)
      have HPM := Lib.hid hlt
      by_cases hlow : c.toNat < 128
      · have hdec : Utf8.decode fs pos = (c.toNat, 1) := by rw [decode_ascii fs pos hps (by rw [hb]; exact hlow), hb]
        have hnx : ∀ ty, (Instr.next (.pointer (some ⟨w.heap.size, 0, none⟩)) true ty).run Tryd.prog (w.iter fs pos) = .ok (.tuple #[.bool true, .int .i64 pos, .int .i32 c.toNat]) (w.iter fs (pos + 1)) := fun ty => by
          rw [run_next_any w fs pos ty hps, hdec]
        clear hdec hb hc hpl hps
        by_cases hlo : c.toNat < 48
        · have NO : Hid (numC l = none) := Lib.hid (by rw [numC_eq, hnum.out, HD.out, numG_bad (by omega)]; rfl)
          have d1 : decide ((c.toNat : Int) < 48) = true := by simp; omega
          go_wp2_with fail
          go_ret2
          exact NumIs.no NO.out (iter_below _ _ _)
        · by_cases hhi : 57 < c.toNat
          · have NO : Hid (numC l = none) := Lib.hid (by rw [numC_eq, hnum.out, HD.out, numG_bad (by omega)]; rfl)
            have d1 : decide ((c.toNat : Int) < 48) = false := by simp; omega
            have d2 : decide (57 < (c.toNat : Int)) = true := by simp; omega
            go_wp2_with fail
            go_ret2
            exact NumIs.no NO.out (iter_below _ _ _)
          · obtain ⟨f, hf⟩ : ∃ f, f = c.toNat - 48 := ⟨_, rfl⟩
            have d1 : decide ((c.toNat : Int) < 48) = false := by simp; omega
            have d2 : decide (57 < (c.toNat : Int)) = false := by simp; omega
            have STEP : Hid (numG acc (l.drop pos) = if 2147483647 < 10 * acc + f then none else numG (10 * acc + f) (l.drop (pos + 1))) := Lib.hid (by rw [HD.out, numG_step (by omega) hacc, hf])
            have hf9 : f ≤ 9 := by omega
            have w1 : wrap32 ((c.toNat : Int) - 48) = (f : Int) := by unfold wrap32; omega
            by_cases hov : 2147483647 < 10 * acc + f
            · have NO : Hid (numC l = none) := Lib.hid (by rw [numC_eq, hnum.out, STEP.out, if_pos hov]; rfl)
              have d3 : decide ((2147483647 - ((c.toNat : Int) - 48)) / 10 < (acc : Int)) = true := by simp; omega
              have w2 : IntKind.i64.wrap (2147483647 - ((c.toNat : Int) - 48)) = 2147483647 - ((c.toNat : Int) - 48) := IntWalk.i64_in _ (by omega)
              have hge : (0 : Int) ≤ 2147483647 - ((c.toNat : Int) - 48) := by omega
              have HF := Lib.hid hf
              clear hf hov
              go_wp2_with fail
              go_ret2
              exact NumIs.no NO.out (iter_below _ _ _)
            · have NX : Hid (numG 0 l = numG (10 * acc + f) (l.drop (pos + 1))) := Lib.hid (by rw [hnum.out, STEP.out, if_neg hov])
              have d3 : decide ((2147483647 - ((c.toNat : Int) - 48)) / 10 < (acc : Int)) = false := by simp; omega
              have w2 : IntKind.i64.wrap (2147483647 - ((c.toNat : Int) - 48)) = 2147483647 - ((c.toNat : Int) - 48) := IntWalk.i64_in _ (by omega)
              have hge : (0 : Int) ≤ 2147483647 - ((c.toNat : Int) - 48) := by omega
              have HF := Lib.hid hf
              clear hf
              go_wp2_with fail
              go_roundw
              case rel => exact ⟨10 * acc + f, pos + 1, by have := HF.out; congr 1; omega, by have := HPM.out; omega, by omega, NX, rfl⟩
              case measure => have := HPM.out; simp; omega
      · have hhi := decode_high fs pos hps (by rw [hb]; omega)
        obtain ⟨rn, hrn⟩ : ∃ rn, rn = (Utf8.decode fs pos).1 := ⟨_, rfl⟩
        have hnx : ∀ ty, (Instr.next (.pointer (some ⟨w.heap.size, 0, none⟩)) true ty).run Tryd.prog (w.iter fs pos) = .ok (.tuple #[.bool true, .int .i64 pos, .int .i32 rn]) (w.iter fs (pos + (Utf8.decode fs pos).2)) := fun ty => by
          rw [run_next_any w fs pos ty hps, ← hrn]
        have NO : Hid (numC l = none) := Lib.hid (by rw [numC_eq, hnum.out, HD.out, numG_bad (by omega)]; rfl)
        have hrn1 : 128 ≤ rn := by rw [hrn]; exact hhi.1
        have d1 : decide ((rn : Int) < 48) = false := by simp; omega
        have d2 : decide (57 < (rn : Int)) = true := by simp; omega
        clear hb hc hpl hps hhi hrn
        go_wp2_with fail
        go_ret2
        exact NumIs.no NO.out (iter_below _ _ _)
    · obtain rfl : pos = m := by omega
      have hnx : ∀ ty, (Instr.next (.pointer (some ⟨w.heap.size, 0, none⟩)) true ty).run Tryd.prog (w.iter fs pos) = _ := fun ty => run_next_end w fs pos ty (by rw [hsz]; omega)
      have FI : Hid (numG 0 l = some acc) := Lib.hid (by rw [hnum.out, MM.out, List.drop_length]; rfl)
      have IT := Lib.hid (fun W h => itoa_any acc (by omega) W (V.out.below h))
      by_cases hown : Lib.decDigits acc = l
      · have YES : Hid (numC l = some acc) := Lib.hid (by rw [numC_eq, FI.out]; show (if _ then _ else _) = _; rw [if_pos hown])
        have e1 : (fs.toList == (Om.B (Lib.decDigits acc)).toList) = true := by rw [hown, ← FS.out]; simp
        have e2 : ((Om.B (Lib.decDigits acc)).toList == fs.toList) = true := by rw [hown, ← FS.out]; simp
        clear hown
        go_wp2_with fail
        refine (IT.out _ (iter_below _ _ _)).mono ?_
        rintro e w3 ⟨rfl, hb3⟩
        have B3 : Hid (Below w.heap.size w w3) := Lib.hid ((iter_below _ _ _).trans (hb3.mono (iter_below _ _ _).size))
        clear hb3
        go_wp2
        go_ret2
        exact NumIs.yes YES.out B3.out
      · have NO : Hid (numC l = none) := Lib.hid (by rw [numC_eq, FI.out]; show (if _ then _ else _) = _; rw [if_neg hown])
        have e2 : ((Om.B (Lib.decDigits acc)).toList == fs.toList) = false := by rw [FS.out, beq_eq_false_iff_ne, b_toList, b_toList]; exact hown
        clear hown
        go_wp2_with fail
        refine (IT.out _ (iter_below _ _ _)).mono ?_
        rintro e w3 ⟨rfl, hb3⟩
        have B3 : Hid (Below w.heap.size w w3) := Lib.hid ((iter_below _ _ _).trans (hb3.mono (iter_below _ _ _).size))
        clear hb3
        go_wp2
        go_ret2
        exact NumIs.no NO.out B3.out
end Co
end Go.Proofs.YtdojclhcoboocaaDoor
