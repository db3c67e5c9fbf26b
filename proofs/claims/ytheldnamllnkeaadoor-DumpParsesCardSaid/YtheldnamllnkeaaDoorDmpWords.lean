/- The contract of the document's Words. -/
import Derived.Test.YtheldnamllnkeaaDoorDmpGlue
import Derived.Test.YtheldnamllnkeaaDoorDmpRefF
import Derived.Test.YtheldnamllnkeaaDoorDmpStr
import Derived.StillTailTactics
namespace Go.Proofs.YtheldnamllnkeaaDoor
namespace Pd
open Go.RowKit Dsk Go.Maps
set_option maxRecDepth 100000
set_option linter.unusedVariables false

theorem still_tail {P : Program} {id : Nat} {Q : Exit → Act → World → Prop} {a : Act} {w : World} {l : List Oper} (n : Nat) (hm : P.follows .mixedOrders = true) (hB : Region.lexTailB .any l.toArray n = true)
    (h : ∀ w2, Hid (w2 = w.drew) → wpStill P l.toArray w2 (fun a' => wpList P l.toArray Q (l.drop n) a' w2) (l.take n) a) : (Code.region id l.toArray true).wp P Q a w :=
  wp_region_still_tail n hm hB (h w.drew (show _ = _ from rfl))
/-- The last string is another one. -/
theorem GrowsS.last {w wr : World} {g n cap : Nat} {pre : List (List UInt8)} {wd : List UInt8} (h : GrowsS w (pre ++ [wd]) (.slice (some ⟨g, 0, none⟩) n cap) wr) (hn : n = pre.length + 1) (x : List UInt8) :
    GrowsS w (pre ++ [x]) (.slice (some ⟨g, 0, none⟩) n cap) (wr.setCell ⟨g, pre.length, none⟩ (.string (Om.B x))) := by
  have hr := h.row
  unfold Strs at hr
  rw [List.length_append, List.length_singleton, ← hn] at hr
  obtain ⟨h1, h2⟩ := World.ownsRow.stored hr pre.length (.string (Om.B x))
  have e : (scells (pre ++ [wd])).set pre.length (.string (Om.B x)) = scells (pre ++ [x]) := by
    rw [scells_snoc, scells_snoc, List.set_append_right _ _ (by rw [scells_length]; exact Nat.le_refl _), scells_length, Nat.sub_self]
    rfl
  rw [e] at h1
  refine ⟨?_, h.new, h.below.setCell (p := ⟨g, pre.length, none⟩) (h.new g rfl) _⟩
  unfold Strs
  rw [List.length_append, List.length_singleton, ← hn]
  exact h1
theorem GrowsS.at_ {w wr : World} {v : Value} {pre : List (List UInt8)} {wd : List UInt8} (h : GrowsS w (pre ++ [wd]) v wr) : ∃ g cap, v = .slice (some ⟨g, 0, none⟩) (pre.length + 1) cap ∧ wr.cell? ⟨g, pre.length, none⟩ = some (.string (Om.B wd)) ∧ wr.frozen? ⟨g, pre.length, none⟩ = false := by
  have hr := h.row
  rcases hr.2 with ⟨h1, h2⟩ | ⟨g, cap, cur, hv, _, hh, _⟩
  · simp at h2
  · refine ⟨g, cap, by rw [hv, List.length_append, List.length_singleton], ?_, frozen_of_row (j := pre.length) _ _ _ _ hh⟩
    subst hv
    rw [hr.cellAt pre.length (by rw [List.length_append, List.length_singleton]; omega)]
    exact scells_get _ _ _ (by rw [List.getElem?_append_right (Nat.le_refl _), Nat.sub_self]; rfl)
theorem words_len : ∀ (l : List UInt8), (words l).length ≤ l.length + 1 ∧ ∀ x ∈ words l, x.length ≤ l.length
  | [] => ⟨Nat.le_refl _, by simp [words]⟩
  | c :: l => by
    obtain ⟨h1, h2⟩ := words_len l
    unfold words
    split
    · refine ⟨by simp only [List.length_cons]; omega, fun x hx => ?_⟩
      rcases List.mem_cons.1 hx with rfl | hx
      · simp
      · have := h2 x hx; simp only [List.length_cons]; omega
    · cases hw : words l with
      | nil => exact absurd hw (words_ne l)
      | cons y r =>
        rw [hw] at h1 h2
        refine ⟨by simp only [List.length_cons] at h1 ⊢; omega, fun x hx => ?_⟩
        rcases List.mem_cons.1 hx with rfl | hx
        · have := h2 y (List.mem_cons_self ..); simp only [List.length_cons]; omega
        · have := h2 x (List.mem_cons_of_mem _ hx); simp only [List.length_cons]; omega
set_option maxHeartbeats 2000000 in
theorem rwords_any (l : List UInt8) (w : World) (hl : l.length ≤ 900000) : Calls Tryd.prog 41 #[.string (Om.B l)] w fun e w' => ∃ v, e = .returned v ∧ GrowsS w (words l) v w' := by
  obtain ⟨m, hmm⟩ : ∃ m, m = l.length := ⟨_, rfl⟩
  have MM := Lib.hid hmm
  obtain ⟨fs, hfs⟩ : ∃ fs, fs = Om.B l := ⟨_, rfl⟩
  have hsz : fs.size = m := by rw [hfs, Om.B_size, hmm]
  have FS := Lib.hid hfs
  have AT : Hid (∀ (j : Nat) (hj : j < fs.size) (c : UInt8), l[j]? = some c → fs[j] = c) := Lib.hid fun j hj c hc => by
    have e : ∀ (x : ByteArray) (hx : j < x.size) (hl : j < l.length), x = Om.B l → x[j] = l[j] := by rintro _ hx hl rfl; rfl
    rw [e fs hj (List.getElem?_eq_some_iff.1 hc).1 FS.out]
    exact (List.getElem?_eq_some_iff.1 hc).2
  rw [← hfs]
  rw [← hmm] at hl
  clear hfs hmm
  obtain ⟨W0, hW0⟩ : ∃ W0, w.alloc (.cells #[.string ⟨#[]⟩] 9) = W0 := ⟨_, rfl⟩
  have G0 : Hid (GrowsS w [[]] (.slice (some ⟨w.heap.size, 0, none⟩) 1 1) W0) := Lib.hid (by
    rw [← hW0]
    exact ⟨strs_made (l := [[]]) 1 rfl (by omega) (heap_alloc_new _ _), fun k hk => by cases hk; exact Nat.le_refl _, (Below.refl _ _).alloc (Nat.le_refl _) _⟩)
  go_enter Tryd.func41, Tryd.ntmps41
  go_wp2
  clear hW0
  go_loopw [3, 4] (fun o i wr => ∃ (pre : List (List UInt8)) (wd : List UInt8) (j : Nat), i = .int .i64 (j : Int) ∧ j ≤ m ∧ Hid (GrowsS w (pre ++ [wd]) o wr) ∧ Hid (glue pre wd (l.drop j) = words l) ∧ pre.length + wd.length ≤ j) (fun _ i _ => m - (Lib.intOf i).toNat)
  case atStart => exact ⟨[], [], 0, rfl, Nat.zero_le _, G0, Lib.hid (glue_start l), Nat.le_refl _⟩
  case round =>
    obtain ⟨pre, wd, j, rfl, hj, hg, hglue, hlen⟩ := hrel
    obtain ⟨uo, rfl⟩ : ∃ uo, uo = u3 := ⟨_, rfl⟩
    by_cases hlt : j < m
    · have hjl : j < l.length := by rw [← MM.out]; exact hlt
      obtain ⟨c, hc⟩ : ∃ c, l[j]? = some c := ⟨l[j], List.getElem?_eq_getElem hjl⟩
      have hfj : j < fs.size := by rw [hsz]; exact hlt
      have hb : fs[j] = c := AT.out j hfj c hc
      have HDR := Lib.hid (drop_at l j c hc)
      have HX : Hid (fs.extract j (j + 1) = Om.B [c]) := Lib.hid (by rw [FS.out]; exact extract_one l j c hc)
      have HJM := Lib.hid hlt
      have HLEN := Lib.hid hlen
      have d2 : decide ((j : Int) < (m : Int)) = true := by simp; omega
      have d2' : decide (j < m) = true := by simp; omega
      have j0 : (0 : Int) ≤ (j : Int) := by omega
      have j1 : (j : Int) < (m : Int) := by omega
      have hw1 : IntKind.i64.wrap ((j : Int) + 1) = ((j + 1 : Nat) : Int) := by rw [IntWalk.i64_in _ (by omega)]; rfl
      clear hc hjl
      by_cases h32 : c = 32
      · subst h32
        have e32 : (((32 : UInt8).toNat : Int) == 32) = true := rfl
        obtain ⟨W8, hW8⟩ : ∃ W8, wr.alloc (.cells #[.string ⟨#[]⟩] 9) = W8 := ⟨_, rfl⟩
        have B8 : Hid (Below wr.heap.size wr W8) := Lib.hid (by rw [← hW8]; exact (Below.refl _ _).alloc (Nat.le_refl _) _)
        have C8 : Hid (W8.heap[wr.heap.size]? = some (.cells #[.string (Om.B [])] 9 (0, 0))) := Lib.hid (by rw [← hW8]; exact heap_alloc_new _ _)
        have LU : Hid ((pre ++ [wd]).length ≤ 1000000) := Lib.hid (by rw [List.length_append, List.length_singleton]; omega)
        clear hlen
        go_wp2_with (at_builtin; refine wpList_addS rfl _ _ rfl uo (pre ++ [wd]) rfl (strs_next hg.out.row B8.out) LU.out _ [] rfl C8.out ?_; refine Hid.out ?_)
        refine Lib.hid ?_
        intro v9 w9 h1 h2 h3
        have G9 : Hid (GrowsS w ((pre ++ [wd]) ++ [[]]) v9 w9) := Lib.hid ((hg.out.more B8.out).add (by simpa using h1) h2 h3)
        clear h1 h2 h3 hW8
        go_wp2
        go_roundw
        case rel => exact ⟨pre ++ [wd], [], j + 1, by go_num, by have := HJM.out; omega, G9, Lib.hid (by rw [← glue_blank, ← HDR.out]; exact hglue.out), by have := HLEN.out; simp only [List.length_append, List.length_cons, List.length_nil] at this ⊢; omega⟩
        case measure => have := HJM.out; simp [Lib.intOf]; omega
      · have e32 : ((c.toNat : Int) == 32) = false := by
          rw [beq_eq_false_iff_ne]
          intro e
          exact h32 (UInt8.toNat_inj.1 (by show c.toNat = 32; omega))
        obtain ⟨g, cap, rfl, y4, yf⟩ := hg.out.at_
        obtain ⟨Z, hZ⟩ : ∃ Z, Z = j + 1 := ⟨_, rfl⟩
        have ZZ := Lib.hid hZ
        have HW1 : Hid (IntKind.i64.wrap ((j : Int) + 1) = (Z : Int)) := Lib.hid (by rw [hw1, hZ])
        clear hw1
        obtain ⟨n, hnn⟩ : ∃ n, n = pre.length := ⟨_, rfl⟩
        have NN := Lib.hid hnn
        obtain ⟨O, hO⟩ : ∃ O, O = Om.B wd := ⟨_, rfl⟩
        have OO := Lib.hid hO
        have hOs : O.size = wd.length := by rw [hO, Om.B_size]
        obtain ⟨X, hX⟩ : ∃ X, X = fs.extract j Z := ⟨_, rfl⟩
        have XX : Hid (X = Om.B [c]) := Lib.hid (by rw [hX, hZ]; exact HX.out)
        have hX' : fs.extract j Z = X := hX.symm
        have hXs : X.size = 1 := by rw [XX.out, Om.B_size]; rfl
        rw [← hnn, ← hO] at y4
        rw [← hnn] at yf
        rw [← hnn] at hlen
        have SET : Hid (∀ w2, w2 = wr.drew → GrowsS w (pre ++ [wd ++ [c]]) (.slice (some ⟨g, 0, none⟩) (n + 1) cap) (w2.setCell ⟨g, n, none⟩ (.string (O ++ X)))) := Lib.hid fun w2 hw2 => by
          have h := (GrowsS.more hg.out (show Below wr.heap.size wr w2 by rw [hw2]; exact (Below.refl _ _).drew)).last (n := pre.length + 1) rfl (wd ++ [c])
          rw [← Om.B_append, ← OO.out, ← XX.out, ← NN.out] at h
          exact h
        have q0 : (0 : Int) ≤ (n : Int) := by omega
        have q1 : (n : Int) < (n : Int) + 1 := by omega
        have qb : -9223372036854775808 ≤ (n : Int) ∧ (n : Int) ≤ 9223372036854775807 := by omega
        have p1 : (Z : Int) ≤ (m : Int) := by omega
        have p2 : (j : Int) ≤ (Z : Int) := by omega
        have p3 : (0 : Int) ≤ (Z : Int) := by omega
        have o1 : ¬ 9223372036854775807 < O.size + X.size := by rw [hOs, hXs]; omega
        have o2 : ¬ 9223372036854775807 < O.size + 1 := by rw [hOs]; omega
        have q3 : wrap64 (n : Int) = (n : Int) := IntWalk.wrap64_in _ qb
        have q4 : IntKind.i64.wrap (n : Int) = (n : Int) := IntWalk.i64_in _ qb
        have hw1 := HW1.out
        clear qb hnn hO hX hOs hlen hZ
        rw [← NN.out]
        go_wp2_with fail
        refine still_tail 17 (by kernel_rfl) (by kernel_rfl) ?_
        intro w2 hw2
        have z4 : w2.cell? ⟨g, n, none⟩ = some (.string O) := by rw [hw2.out]; exact y4
        have zf : w2.frozen? ⟨g, n, none⟩ = false := by rw [hw2.out]; exact yf
        have FIN := Lib.hid (SET.out w2 hw2.out)
        clear hw2 y4 yf
        simp only [List.take_succ_cons, List.take_zero, List.drop_succ_cons, List.drop_zero]
        repeat still_step
        refine wpStill_nil ?_
        go_wp2
        go_roundw
        case rel => exact ⟨pre, wd ++ [c], j + 1, by rw [← ZZ.out], by have := HJM.out; omega, FIN, Lib.hid (by rw [← glue_letter _ _ _ _ h32, ← HDR.out]; exact hglue.out), by have := HLEN.out; simp only [List.length_append, List.length_cons, List.length_nil]; omega⟩
        case measure => have := HJM.out; have := ZZ.out; simp [Lib.intOf]; omega
    · obtain rfl : j = m := by omega
      have d2 : decide ((j : Int) < (j : Int)) = false := by simp
      have d2' : decide (j < j) = false := by simp
      have FIN : Hid (GrowsS w (words l) uo wr) := Lib.hid (by
        have h := hglue.out
        rw [MM.out, List.drop_length, glue_end] at h
        rw [← h]
        exact hg.out)
      go_wp2
      go_ret
      exact ⟨_, rfl, FIN.out⟩
end Pd
end Go.Proofs.YtheldnamllnkeaaDoor
