/- The document's own: a form filled in. -/
import Derived.Test.YtheldnamllnkeaaDoorDmpRefL
import Derived.Test.YtheldnamllnkeaaDoorDmpBack
namespace Go.Proofs.YtheldnamllnkeaaDoor
namespace Pd
open Go.RowKit Dsk Go.Maps
set_option maxRecDepth 100000
set_option linter.unusedVariables false

theorem signs_cons (c : UInt8) (r : List UInt8) : signs (c :: r) = signs r + (if c = 35 then 1 else 0) := by
  unfold signs
  rw [List.countP_cons]
  simp
theorem extract_one (f : List UInt8) (j : Nat) (c : UInt8) (h : f[j]? = some c) : (Om.B f).extract j (j + 1) = Om.B [c] := by
  have hl := (List.getElem?_eq_some_iff.1 h).1
  unfold Om.B
  apply ByteArray.ext
  rw [ByteArray.data_extract]
  apply Array.ext'
  rw [Array.toList_extract, List.extract_eq_take_drop]
  rw [show j + 1 - j = 1 from by omega, List.drop_eq_getElem_cons hl]
  have e := (List.getElem?_eq_some_iff.1 h).2
  simp [e]
theorem drop_at (f : List UInt8) (j : Nat) (c : UInt8) (h : f[j]? = some c) : f.drop j = c :: f.drop (j + 1) := by
  have hl := (List.getElem?_eq_some_iff.1 h).1
  rw [List.drop_eq_getElem_cons hl, (List.getElem?_eq_some_iff.1 h).2]
set_option maxHeartbeats 2000000 in
theorem line_any (f : List UInt8) (l : List Int) (g : Nat) (w : World) (hl : IRow w g l) (hg : g < w.heap.size) (hf : f.length ≤ 100) (hs : signs f = l.length) (hok : ∀ z ∈ l, okN z = true) :
    Calls Tryd.prog 20 #[.string (Om.B f), .slice (some ⟨g, 0, none⟩) l.length l.length] w fun e w' => e = .returned (.string (Om.B (fill f l))) ∧ Below w.heap.size w w' := by
  obtain ⟨n, hnn⟩ : ∃ n, n = l.length := ⟨_, rfl⟩
  obtain ⟨m, hmm⟩ : ∃ m, m = f.length := ⟨_, rfl⟩
  have NN := Lib.hid hnn
  have MM := Lib.hid hmm
  have R := Lib.hid hl
  have GG := Lib.hid hg
  have OK := Lib.hid hok
  have SG := Lib.hid hs
  obtain ⟨fs, hfs⟩ : ∃ fs, fs = Om.B f := ⟨_, rfl⟩
  have hsz : fs.size = m := by rw [hfs, Om.B_size, hmm]
  have FS := Lib.hid hfs
  rw [← hnn, ← hfs]
  rw [← hmm] at hf
  clear hl hg hok hs hnn hmm hfs
  go_enter Tryd.func20, Tryd.ntmps20
  go_wp2
  go_loopw [5, 6, 7] (fun s k i wr => ∃ (p : List UInt8) (q j : Nat), s = .string (Om.B p) ∧ k = .int .i64 q ∧ i = .int .i64 j ∧ j ≤ m ∧ Hid (p ++ fill (f.drop j) (l.drop q) = fill f l) ∧ Hid (q + signs (f.drop j) = l.length) ∧ Hid (p.length ≤ j * 20) ∧ Hid (Below w.heap.size w wr)) (fun _ _ i _ => m - (Lib.intOf i).toNat)
  case atStart => exact ⟨[], 0, 0, rfl, rfl, rfl, Nat.zero_le _, Lib.hid (by simp), Lib.hid (by have := SG.out; simp; exact this), Lib.hid (by simp), Lib.hid (Below.refl _ _)⟩
  case round =>
    obtain ⟨p, q, j, rfl, rfl, rfl, hj, hp, hq, hpl, hw⟩ := hrel
    by_cases hlt : j < m
    · have hjl : j < f.length := by rw [← MM.out]; exact hlt
      obtain ⟨c, hc⟩ : ∃ c, c = f[j] := ⟨_, rfl⟩
      have HC : Hid (f[j]? = some c) := Lib.hid (by rw [hc]; exact List.getElem?_eq_getElem hjl)
      have hfj : j < fs.size := by rw [hsz]; exact hlt
      have hb : fs[j] = c := by
        have e : ∀ (x : ByteArray) (hx : j < x.size), x = Om.B f → x[j] = f[j] := by rintro _ hx rfl; rfl
        rw [hc]
        exact e fs hfj FS.out
      have HD := Lib.hid (drop_at f j c HC.out)
      have HJM := Lib.hid hlt
      have d1 : decide ((j : Int) < (m : Int)) = true := by simp; omega
      have d1' : decide (j < m) = true := by simp; omega
      have j0 : (0 : Int) ≤ (j : Int) := by omega
      have j1 : (j : Int) < (m : Int) := by omega
      have hw1 : IntKind.i64.wrap ((j : Int) + 1) = ((j + 1 : Nat) : Int) := by rw [IntWalk.i64_in _ (by omega)]; rfl
      clear hc hjl
      by_cases h35 : c = 35
      · subst h35
        have HQ : Hid (q + (signs (f.drop (j + 1)) + 1) = l.length) := Lib.hid (by have h := hq.out; rw [HD.out, signs_cons] at h; simpa using h)
        have hql : q < l.length := by have := HQ.out; omega
        obtain ⟨z, hz⟩ : ∃ z, z = l[q] := ⟨_, rfl⟩
        have HZ : Hid (l[q]? = some z) := Lib.hid (by rw [hz]; exact List.getElem?_eq_getElem hql)
        have hzo := OK.out z (List.mem_of_getElem? HZ.out)
        obtain ⟨t, rfl⟩ : ∃ t : Nat, z = (t : Int) := ⟨z.toNat, (toNat_of hzo).symm⟩
        have hcl := (hw.out.cell (p := ⟨g, q, none⟩) GG.out).trans (R.out q _ HZ.out)
        have ht : t ≤ 4294967295 := by rw [okN_iff] at hzo; omega
        have HT := Lib.hid ht
        have FG := Lib.hid (figures_any t ht)
        have q0 : (0 : Int) ≤ (q : Int) := by omega
        have q1 : (q : Int) < (n : Int) := by have := NN.out; omega
        have hw2 : IntKind.i64.wrap ((q : Int) + 1) = ((q + 1 : Nat) : Int) := by rw [IntWalk.i64_in _ (by have := HQ.out; have := SG.out; have : signs f ≤ f.length := List.countP_le_length; have := MM.out; omega)]; rfl
        clear hz hzo ht hql
        go_wp2_with fail
        refine (FG.out _).mono ?_
        rintro e w5 ⟨rfl, hb5⟩
        have HB5 := Lib.hid (bgo hw.out (Nat.le_refl _) hb5)
        have hov : ¬ 9223372036854775807 < (Om.B p).size + (Om.B (Lib.decDigits t)).size := by
          have h1 := digits_length t HT.out
          have := hpl.out
          rw [Om.B_size, Om.B_size]
          omega
        clear hb5 hcl
        go_wp2
        go_roundw
        case rel =>
          refine ⟨p ++ Lib.decDigits t, q + 1, j + 1, by rw [← Om.B_append], by go_num, by go_num, by have := HJM.out; omega, Lib.hid ?_, Lib.hid ?_, Lib.hid ?_, HB5⟩
          · have h := hp.out
            rw [HD.out] at h
            rw [← h]
            have e1 : (l.drop q).headD 0 = (t : Int) := by rw [List.headD_eq_head?_getD, List.head?_drop, HZ.out]; rfl
            show _ = p ++ (if (35 : UInt8) = 35 then fig ((l.drop q).headD 0) ++ fill (f.drop (j + 1)) (l.drop q).tail else _)
            rw [if_pos rfl, e1, List.tail_drop, List.append_assoc]
            rfl
          · have := HQ.out; omega
          · rw [List.length_append]; have := digits_length t HT.out; have := hpl.out; omega
        case measure => have := HJM.out; simp [Lib.intOf]; omega
      · have HQ : Hid (q + signs (f.drop (j + 1)) = l.length) := Lib.hid (by have h := hq.out; rw [HD.out, signs_cons, if_neg h35] at h; simpa using h)
        have NE := Lib.hid h35
        have e1 : ((c.toNat : Int) == 35) = false := by
          rw [beq_eq_false_iff_ne]
          intro e
          exact NE.out (UInt8.toNat_inj.1 (by show c.toNat = 35; omega))
        have hex : fs.extract j (j + 1) = Om.B [c] := by rw [FS.out]; exact extract_one f j c HC.out
        have hov : ¬ 9223372036854775807 < (Om.B p).size + (Om.B [c]).size := by
          have := hpl.out
          have h2 : ([c] : List UInt8).length = 1 := rfl
          rw [Om.B_size, Om.B_size, h2]
          omega
        have hsl : (Instr.slice 9 (.string fs) (some (.int .i64 (j : Int))) (some (.int .i64 ((j : Int) + 1))) none).run Tryd.prog wr = .ok (.string (Om.B [c])) wr := by
          have h := run_slice_string (P := Tryd.prog) wr 9 fs .i64 .i64 (j : Int) ((j : Int) + 1) Tryd.underlying9 (by omega) (by omega) (by omega)
          rw [show ((j : Int) + 1).toNat = j + 1 from by omega, Int.toNat_natCast, hex] at h
          exact h
        clear h35 hex
        go_wp2
        go_roundw
        case rel =>
          refine ⟨p ++ [c], q, j + 1, by rw [← Om.B_append], rfl, by go_num, by have := HJM.out; omega, Lib.hid ?_, HQ, Lib.hid ?_, hw⟩
          · have h := hp.out
            rw [HD.out] at h
            rw [← h]
            show _ = p ++ (if c = 35 then _ else c :: fill (f.drop (j + 1)) (l.drop q))
            rw [if_neg NE.out, List.append_assoc]
            rfl
          · rw [List.length_append]; have := hpl.out; simp; omega
        case measure => have := HJM.out; simp [Lib.intOf]; omega
    · obtain rfl : j = m := by omega
      have d1 : decide ((j : Int) < (j : Int)) = false := by simp
      have d1' : decide (j < j) = false := by simp
      have FIN : Hid (p = fill f l) := Lib.hid (by have h := hp.out; rw [MM.out, List.drop_length] at h; simpa [fill] using h)
      go_wp2
      go_ret
      exact ⟨by rw [FIN.out]; rfl, hw.out⟩
end Pd
end Go.Proofs.YtheldnamllnkeaaDoor
