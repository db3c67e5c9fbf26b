/- The law of there and back: its walk. -/
import Derived.Test.YtheldnamllnkeaaDoorDmpAlive
import Derived.Deep.RegionHeld3
namespace Go.Proofs.YtheldnamllnkeaaDoor
namespace Pd
open Go.RowKit Dsk Go.Maps
set_option maxRecDepth 100000
set_option linter.unusedVariables false

theorem slotW_length {x : Ln} (h : okH x = true) (hg : x.g ≤ 4294967295) : (∀ y ∈ slotW x, y.length ≤ 1000) ∧ (slotW x).length ≤ 10 := by
  have h1 := headW_length h hg
  unfold slotW
  split
  · refine ⟨fun y hy => ?_, by simp [headW]⟩
    rcases List.mem_append.1 hy with e | e
    · exact h1 y e
    · rw [List.mem_singleton.1 e]; decide
  · exact ⟨h1, by simp [headW]⟩
theorem line_length {ws : List (List UInt8)} (h : ∀ y ∈ ws, y.length ≤ 1000) (hn : ws.length ≤ 1000) : (line ws).length ≤ 4294967295 := by
  have h1 := join_length_le [32] ws 1000 h
  have h2 : ([32] : List UInt8).length = 1 := rfl
  have h3 : ws.length * (1000 + 1) ≤ 1000 * (1000 + 1) := Nat.mul_le_mul_right _ hn
  unfold line
  rw [h2] at h1
  omega
theorem okR_parts {r : Rp} (h : okR r = true) : okS r = true ∧ ∀ x ∈ r.ls, okL x = true := by
  unfold okR at h
  rw [Bool.and_eq_true, List.all_eq_true] at h
  exact h
theorem okL_parts {x : Ln} (h : okL x = true) : okH x = true ∧ ∀ e ∈ x.es, okE e = true := by
  unfold okL at h
  rw [Bool.and_eq_true, List.all_eq_true] at h
  exact h
theorem okS_parts {r : Rp} (h : okS r = true) : okN r.s = true ∧ okN r.o = true ∧ okN r.c = true := by
  unfold okS at h
  rw [Bool.and_eq_true, Bool.and_eq_true] at h
  exact ⟨h.1.1, h.1.2, h.2⟩
theorem okE_parts {e : Int × Int} (h : okE e = true) : okN e.1 = true ∧ okN e.2 = true := by
  unfold okE at h
  rw [Bool.and_eq_true] at h
  exact h
/-- No line of a dump is long. -/
theorem dump_len {r : Rp} (h : okR r = true) (hg : ∀ x ∈ r.ls, x.g ≤ 4294967295) : ∀ y ∈ dump r, y.length ≤ 4294967295 := by
  obtain ⟨h1, h2⟩ := okR_parts h
  obtain ⟨s1, s2, s3⟩ := okS_parts h1
  intro y hy
  unfold dump at hy
  rcases List.mem_cons.1 hy with rfl | hy
  · exact line_length (supW_length s1 s2 s3) (by show 6 ≤ 1000; omega)
  · obtain ⟨x, hx, hy⟩ := List.mem_flatMap.1 hy
    obtain ⟨k1, k2⟩ := okL_parts (h2 x hx)
    unfold linesL at hy
    rcases List.mem_cons.1 hy with rfl | hy
    · obtain ⟨j1, j2⟩ := slotW_length k1 (hg x hx)
      exact line_length j1 (by omega)
    · obtain ⟨e, he, rfl⟩ := List.mem_map.1 hy
      obtain ⟨j1, j2⟩ := okE_parts (k2 e he)
      exact line_length (entW_length j1 j2) (by show 3 ≤ 1000; omega)
theorem m_bounds {l : List (List UInt8)} {m : Rp} (h : parse l = some m) (hl : l.length ≤ 60) : m.ls.length ≤ 60 ∧ ∀ x ∈ m.ls, x.es.length ≤ 60 := by
  cases l with
  | nil => cases h
  | cons s q =>
    obtain ⟨p, h1, h2⟩ := Option.bind_eq_some_iff.1 (show (supP (words s)).bind _ = some m from h)
    obtain ⟨ls, h3, h4⟩ := Option.bind_eq_some_iff.1 h2
    cases h4
    have k1 := addAll_length _ _ _ h3
    have k2 := addAll_es _ _ _ 0 h3 (by simp)
    simp only [List.length_cons, List.length_nil] at hl k1
    refine ⟨by show ls.length ≤ 60; omega, fun x hx => ?_⟩
    have := k2 x hx
    omega
theorem okN_in {z : Int} (h : okN z = true) : -9223372036854775808 ≤ z ∧ z ≤ 9223372036854775807 := by
  rw [okN_iff] at h
  omega
theorem m_wr {l : List (List UInt8)} {m : Rp} (h : parse l = some m) : Wr m := by
  obtain ⟨h1, h2, h3⟩ := dump_parse h
  obtain ⟨s1, s2, s3⟩ := okS_parts (okR_parts h2).1
  refine ⟨okN_in s1, okN_in s2, okN_in s3, fun x hx => ?_⟩
  obtain ⟨k1, k2⟩ := okL_parts (h3 x hx).1
  obtain ⟨j1, _, j2, j3, j4⟩ := okH_parts k1
  exact ⟨⟨okN_in j1, okN_in j2, okN_in j3, okN_in j4, (h3 x hx).2⟩, fun e he => ⟨okN_in (okE_parts (k2 e he)).1, okN_in (okE_parts (k2 e he)).2⟩⟩
theorem dump_cons (r : Rp) : ∃ s q, dump r = s :: q := ⟨_, _, rfl⟩
set_option maxHeartbeats 4000000 in
theorem back_any (r : Rp) (a : Option Addr) (c : Nat) (l : List (List UInt8)) (la : Option Addr) (lc : Nat) (w : World) (hw : Wr r) (hv : Vs w) (hg : 0 < w.heap.size) (hl : RLns w a r.ls) (hn : r.ls.length ≤ 9223372036854775807) (hes : ∀ x ∈ r.ls, x.es.length ≤ 9223372036854775807)
    (hL : SRow w la l) (hln : l.length ≤ 9223372036854775807) (hlx : ∀ x ∈ l, x.length ≤ 9223372036854775807) (hlc : l.length ≤ lc) (hlcc : lc ≤ 9223372036854775807) :
    Calls Tryd.prog 5 #[Rv r a c, .slice la l.length lc] w fun e w' => e = .returned (.bool true) ∧ Below w.heap.size w w' := by
  obtain ⟨W0, hW0⟩ : ∃ W0, w.alloc (.cells #[.int .i64 r.s, .int .i64 r.o, .int .i64 r.c, .slice a r.ls.length c] 26) = W0 := ⟨_, rfl⟩
  have hB : Below w.heap.size w W0 := by rw [← hW0]; exact (Below.refl _ _).alloc (Nat.le_refl _) _
  have hR : W0.heap[w.heap.size]? = some (.cells #[.int .i64 r.s, .int .i64 r.o, .int .i64 r.c, .slice a r.ls.length c] 26 (0, 0)) := by rw [← hW0]; exact heap_alloc_new _ _
  have HB0 := Lib.hid hB
  have HR0 := Lib.hid hR
  have HW := Lib.hid hw
  have V0 := Lib.hid (hv.below hB)
  have G0 : Hid (0 < W0.heap.size) := Lib.hid (Nat.lt_of_lt_of_le hg hB.size)
  have RL0 := Lib.hid (hl.below hB)
  have SR0 := Lib.hid (hL.below hB)
  have FI := Lib.hid (fits_any r a c W0 RL0.out hn hes)
  have TX : Hid (∀ W, Below W0.heap.size W0 W → Calls Tryd.prog 12 #[.slice la l.length lc] W fun e w' => e = .returned (.bool (textB l)) ∧ W = w') := Lib.hid fun W hb => texts_any l la lc W (SR0.out.below hb) hln hlx
  have HLC := Lib.hid hlc
  have HLCC := Lib.hid hlcc
  have e0 : W0.cell? ⟨w.heap.size, 0, none⟩ = some (.int .i64 r.s) := by rw [cell_of_row _ _ _ _ _ _ hR]; rfl
  have e1 : W0.cell? ⟨w.heap.size, 1, none⟩ = some (.int .i64 r.o) := by rw [cell_of_row _ _ _ _ _ _ hR]; rfl
  have e2 : W0.cell? ⟨w.heap.size, 2, none⟩ = some (.int .i64 r.c) := by rw [cell_of_row _ _ _ _ _ _ hR]; rfl
  have e3 : W0.cell? ⟨w.heap.size, 3, none⟩ = some (.slice a r.ls.length c) := by rw [cell_of_row _ _ _ _ _ _ hR]; rfl
  clear hw hv hg hl hn hes hL hln hlx hlc hlcc hB hR
  unfold Rv at FI ⊢
  go_enter Tryd.func5, Tryd.ntmps5
  go_wp2_with fail
  clear hW0 e0 e1 e2 e3
  refine FI.out.mono ?_
  rintro e w1 ⟨rfl, hb1⟩
  have B1 := Lib.hid hb1
  clear hb1
  have BW : Hid (Below w.heap.size w w1) := Lib.hid (bgo HB0.out (Nat.le_refl _) B1.out)
  have V1 := Lib.hid (V0.out.below B1.out)
  have G1 : Hid (0 < w1.heap.size) := Lib.hid (Nat.lt_of_lt_of_le G0.out B1.out.size)
  have RL1 := Lib.hid (RL0.out.below B1.out)
  have SR1 := Lib.hid (SR0.out.below B1.out)
  have HR1 : Hid (w1.heap[w.heap.size]? = some (.cells #[.int .i64 r.s, .int .i64 r.o, .int .i64 r.c, .slice a r.ls.length c] 26 (0, 0))) := Lib.hid ((B1.out.block _ (Array.getElem?_eq_some_iff.1 HR0.out).1).trans HR0.out)
  have e0 : w1.cell? ⟨w.heap.size, 0, none⟩ = some (.int .i64 r.s) := by rw [cell_of_row _ _ _ _ _ _ HR1.out]; rfl
  have e1 : w1.cell? ⟨w.heap.size, 1, none⟩ = some (.int .i64 r.o) := by rw [cell_of_row _ _ _ _ _ _ HR1.out]; rfl
  have e2 : w1.cell? ⟨w.heap.size, 2, none⟩ = some (.int .i64 r.c) := by rw [cell_of_row _ _ _ _ _ _ HR1.out]; rfl
  have e3 : w1.cell? ⟨w.heap.size, 3, none⟩ = some (.slice a r.ls.length c) := by rw [cell_of_row _ _ _ _ _ _ HR1.out]; rfl
  go_wp2_with fail
  refine (TX.out w1 B1.out).mono ?_
  rintro e wx ⟨rfl, rfl⟩
  cases hF : fitB r with
  | false =>
    have AV := Lib.hid (alive_any w1 V1.out G1.out)
    go_wp2_with fail
    refine AV.out.mono ?_
    rintro e w2 ⟨rfl, hb2⟩
    have B2 : Hid (Below w1.heap.size w1 w2) := Lib.hid hb2
    clear hb2
    go_wp2
    go_ret
    exact ⟨rfl, bgo BW.out (Nat.le_refl _) B2.out⟩
  | true =>
    cases hT : textB l with
    | false =>
      have AV := Lib.hid (alive_any w1 V1.out G1.out)
      go_wp2_with fail
      refine AV.out.mono ?_
      rintro e w2 ⟨rfl, hb2⟩
      have B2 : Hid (Below w1.heap.size w1 w2) := Lib.hid hb2
      clear hb2
      go_wp2
      go_ret
      exact ⟨rfl, bgo BW.out (Nat.le_refl _) B2.out⟩
    | true =>
      obtain ⟨n60, es60⟩ := fitB_yes hF
      obtain ⟨l60, l200⟩ := textB_yes hT
      have L60 := Lib.hid l60
      have N60 := Lib.hid n60
      have ES60 := Lib.hid es60
      have HLX : Hid (∀ x ∈ l, x.length ≤ 4294967295) := Lib.hid fun x hx => by have := l200 x hx; omega
      have HLN : Hid (l.length ≤ 1000000) := Lib.hid (by omega)
      have LI := Lib.hid (lines_any r a c HW.out n60 es60 w1 V1.out RL1.out)
      unfold Rv LIs at LI
      clear hF hT n60 es60 l60 l200
      go_wp2_with fail
      clear e0 e1 e2 e3
      refine LI.out.mono ?_
      rintro e w2 ⟨v, rfl, hgv⟩
      by_cases hk : okR r = true
      · rw [(dumpE_ok hk).1]
        rw [(dumpE_ok hk).2] at hgv
        have GB : Hid (∀ x ∈ r.ls, x.g ≤ 4294967295) := Lib.hid fun x hx => (HW.out.ls x hx).1.g
        have DL := Lib.hid (dump_len hk GB.out)
        have NV : Hid (parseE (dump r) = 0 ∧ parseV (dump r) = r) := Lib.hid (by unfold parseE parseV; rw [parse_dump hk GB.out]; exact ⟨rfl, rfl⟩)
        have NT : Hid (parseE (dump r).tail = 32 ∧ parseV (dump r).tail = none0) := Lib.hid (by unfold parseE parseV; rw [parse_tail]; exact ⟨rfl, rfl⟩)
        have DN : Hid ((dump r).length ≤ 4000) := Lib.hid (by rw [← upTo_all]; exact upTo_length' r _ ES60.out N60.out)
        have B2 : Hid (Below w1.heap.size w1 w2) := Lib.hid hgv.below
        obtain ⟨xa, xc, rfl, hxc, hxcc, hsr⟩ := strs_all hgv.row
        have SX := Lib.hid hsr
        obtain ⟨s, q, hsq⟩ := dump_cons r
        obtain ⟨m, hm⟩ : ∃ m, m = q.length := ⟨_, rfl⟩
        have DLn : Hid ((dump r).length = m + 1) := Lib.hid (by rw [hsq, hm]; rfl)
        have TLn : Hid ((dump r).tail.length = m) := Lib.hid (by rw [hsq, hm]; rfl)
        have PX := Lib.hid (parse_any (dump r) xa xc w2 (V1.out.below B2.out) (Nat.lt_of_lt_of_le G1.out B2.out.size) hxc hxcc DL.out (by have := DN.out; omega) SX.out)
        rw [DLn.out] at hxc PX ⊢
        obtain ⟨xg, xo, rfl, hxg, hxcells⟩ := SX.out (by rw [hsq]; simp)
        have SXT : Hid (∀ W, Below w2.heap.size w2 W → SRow W (some ⟨xg, xo + 1, none⟩) (dump r).tail) := Lib.hid fun W hb hne => ⟨xg, xo + 1, rfl, Nat.lt_of_lt_of_le hxg hb.size, fun i x hx => by
          have h := (hb.cell (p := ⟨xg, xo + (i + 1), none⟩) hxg).trans (hxcells (i + 1) x (by rw [hsq] at hx ⊢; exact hx))
          rwa [show xo + (i + 1) = xo + 1 + i by omega] at h⟩
        have HXC := Lib.hid hxc
        have HXCC := Lib.hid hxcc
        unfold PIs at PX
        have q1 : (((m : Int) + 1) == 0) = false := by rw [beq_eq_false_iff_ne]; omega
        have q2 : decide ((m : Int) + 1 = 0) = false := by rw [decide_eq_false_iff_not]; omega
        clear hgv hxc hxcc hsr hsq hm hxg hxcells
        go_wp2_with fail
        clear q1 q2
        refine PX.out.mono ?_
        rintro e w3 ⟨pa, pc, pevs, rfl, prows, pb⟩
        rw [NV.out.1]
        rw [NV.out.2] at prows ⊢
        rw [show Rv r pa pc = .agg #[.int .i64 r.s, .int .i64 r.o, .int .i64 r.c, .slice pa r.ls.length pc] from rfl]
        obtain ⟨W4, hW4⟩ : ∃ W4, w3.alloc (.cells #[.int .i64 r.s, .int .i64 r.o, .int .i64 r.c, .slice pa r.ls.length pc] 26) = W4 := ⟨_, rfl⟩
        have b4 : Below w3.heap.size w3 W4 := by rw [← hW4]; exact (Below.refl _ _).alloc (Nat.le_refl _) _
        have R4 : Hid (W4.heap[w3.heap.size]? = some (.cells #[.int .i64 r.s, .int .i64 r.o, .int .i64 r.c, .slice pa r.ls.length pc] 26 (0, 0))) := Lib.hid (by rw [← hW4]; exact heap_alloc_new _ _)
        have B14 : Hid (Below w1.heap.size w1 W4) := Lib.hid (bgo (bgo B2.out (Nat.le_refl _) pb) (Nat.le_refl _) b4)
        have B24 : Hid (Below w2.heap.size w2 W4) := Lib.hid (bgo pb (Nat.le_refl _) b4)
        have R14 : Hid (W4.heap[w.heap.size]? = some (.cells #[.int .i64 r.s, .int .i64 r.o, .int .i64 r.c, .slice a r.ls.length c] 26 (0, 0))) := Lib.hid ((B14.out.block _ (Array.getElem?_eq_some_iff.1 HR1.out).1).trans HR1.out)
        have OFV : Hid (∀ W v, Below W4.heap.size W4 W → v = .agg #[.int .i64 r.s, .int .i64 r.o, .int .i64 r.c, .slice pa r.ls.length pc] ∨ v = .agg #[.int .i64 r.s, .int .i64 r.o, .int .i64 r.c, .slice a r.ls.length c] → Calls Tryd.prog 10 #[v] W (OfL r W)) := Lib.hid fun W v hb hvv => by
          rcases hvv with rfl | rfl
          · exact of_any r pa pc W ((prows.rlns.below b4).below hb) N60.out
          · exact of_any r a c W ((RL1.out.below B14.out).below hb) N60.out
        have E10 : Hid (∀ x ∈ r.ls, x.es.length ≤ 1000) := Lib.hid fun x hx => by have := ES60.out x hx; omega
        have SK : Hid (∀ w', Below W4.heap.size W4 w' → w'.cell? ⟨w.heap.size, 0, none⟩ = some (.int .i64 r.s) ∧ w'.cell? ⟨w.heap.size, 1, none⟩ = some (.int .i64 r.o) ∧ w'.cell? ⟨w.heap.size, 2, none⟩ = some (.int .i64 r.c) ∧ w'.cell? ⟨w.heap.size, 3, none⟩ = some (.slice a r.ls.length c) ∧ w'.cell? ⟨w3.heap.size, 0, none⟩ = some (.int .i64 r.s) ∧ w'.cell? ⟨w3.heap.size, 1, none⟩ = some (.int .i64 r.o) ∧ w'.cell? ⟨w3.heap.size, 2, none⟩ = some (.int .i64 r.c) ∧ w'.cell? ⟨w3.heap.size, 3, none⟩ = some (.slice pa r.ls.length pc)) := Lib.hid fun w' hb => by
          have k1 := (hb.block _ (Array.getElem?_eq_some_iff.1 R14.out).1).trans R14.out
          have k2 := (hb.block _ (Array.getElem?_eq_some_iff.1 R4.out).1).trans R4.out
          exact ⟨by rw [cell_of_row _ _ _ _ _ _ k1]; rfl, by rw [cell_of_row _ _ _ _ _ _ k1]; rfl, by rw [cell_of_row _ _ _ _ _ _ k1]; rfl, by rw [cell_of_row _ _ _ _ _ _ k1]; rfl, by rw [cell_of_row _ _ _ _ _ _ k2]; rfl, by rw [cell_of_row _ _ _ _ _ _ k2]; rfl, by rw [cell_of_row _ _ _ _ _ _ k2]; rfl, by rw [cell_of_row _ _ _ _ _ _ k2]; rfl⟩
        clear prows pb b4 hk
        go_wp2_with fail
        clear hW4
        go_region_held3 (fun w' => w'.cell? ⟨w.heap.size, 0, none⟩ = some (.int .i64 r.s) ∧ w'.cell? ⟨w.heap.size, 1, none⟩ = some (.int .i64 r.o) ∧ w'.cell? ⟨w.heap.size, 2, none⟩ = some (.int .i64 r.c) ∧ w'.cell? ⟨w.heap.size, 3, none⟩ = some (.slice a r.ls.length c) ∧ w'.cell? ⟨w3.heap.size, 0, none⟩ = some (.int .i64 r.s) ∧ w'.cell? ⟨w3.heap.size, 1, none⟩ = some (.int .i64 r.o) ∧ w'.cell? ⟨w3.heap.size, 2, none⟩ = some (.int .i64 r.c) ∧ w'.cell? ⟨w3.heap.size, 3, none⟩ = some (.slice pa r.ls.length pc))
          (exact SK.out _ (by first | exact BX3.out | exact BX2.out | exact BX1.out | exact (Below.refl _ _).drew))
          (first
            | (go_at_call 10; refine (OFV.out _ _ BX1.out (by first | exact .inl rfl | exact .inr rfl)).mono ?_; rintro e v2 ⟨a2, c2, rfl, hr2, hb2⟩; have BX2 : Hid (Below W4.heap.size W4 v2) := Lib.hid (bgo BX1.out (Nat.le_refl _) hb2); have RX2 := Lib.hid hr2; have RX3 := Lib.hid (RX1.out.below hb2); clear hr2 hb2)
            | (go_at_call 10; refine (OFV.out _ _ ((Below.refl _ _).drew) (by first | exact .inl rfl | exact .inr rfl)).mono ?_; rintro e v1 ⟨a1, c1, rfl, hr1, hb1⟩; have BX1 : Hid (Below W4.heap.size W4 v1) := Lib.hid (drB hb1); have RX1 := Lib.hid hr1; clear hr1 hb1)
            | (go_at_call 15; refine (same_yes r _ _ _ _ _ (by first | exact RX2.out | exact RX3.out) (by first | exact RX2.out | exact RX3.out) N60.out E10.out).mono ?_; rintro e v3 ⟨rfl, hb3⟩; have BX3 : Hid (Below W4.heap.size W4 v3) := Lib.hid (bgo BX2.out (Nat.le_refl _) hb3); clear hb3))
        all_goals
          have BV3 : Hid (Below w1.heap.size w1 v3) := Lib.hid (bgo B14.out (Nat.le_refl _) BX3.out)
          by_cases hc1 : xc = 1
          · have m0 : m = 0 := by have := HXC.out; omega
            have TN : (dump r).tail = [] := List.eq_nil_of_length_eq_zero (by rw [TLn.out, m0])
            have PT1 : Hid (Calls Tryd.prog 13 #[.slice (some ⟨xg, xo, none⟩) 0 0] v3 (PIs (dump r).tail v3)) := Lib.hid (by rw [TN]; exact parse_any [] (some ⟨xg, xo, none⟩) 0 v3 (V1.out.below BV3.out) (Nat.lt_of_lt_of_le G1.out BV3.out.size) (Nat.le_refl _) (by omega) (by simp) (by simp) (fun h => absurd rfl h))
            unfold PIs at PT1
            subst hc1
            subst m0
            clear TN
            go_wp2_with fail
            refine PT1.out.mono ?_
            rintro e w6 ⟨ka, kc, kevs, rfl, _, hb6⟩
            rw [NT.out.1, NT.out.2]
            rw [show Rv none0 ka kc = .agg #[.int .i64 0, .int .i64 0, .int .i64 0, .slice ka 0 kc] from rfl]
            obtain ⟨wt, hwt⟩ : ∃ wt, w6.alloc (.cells #[.int .i64 0, .int .i64 0, .int .i64 0, .slice ka 0 kc] 26) = wt := ⟨_, rfl⟩
            have BT : Hid (Below w1.heap.size w1 wt) := Lib.hid (by rw [← hwt]; exact bgo (bgo BV3.out (Nat.le_refl _) hb6) (Nat.le_refl _) ((Below.refl _ _).alloc (Nat.le_refl _) _))
            have k3 : wt.cell? ⟨w6.heap.size, 3, none⟩ = some (.slice ka 0 kc) := by rw [← hwt, cell_of_row _ _ _ _ _ _ (heap_alloc_new _ _)]; rfl
            clear hb6
            go_wp2_with fail
            clear hwt k3
            have PT := Lib.hid (parse_any l la lc wt (V1.out.below BT.out) (Nat.lt_of_lt_of_le G1.out BT.out.size) HLC.out HLCC.out HLX.out HLN.out (SR1.out.below BT.out))
            go_wp2_with fail
            refine PT.out.mono ?_
            rintro e w20 ⟨ma, mc, mevs, rfl, mrows, mb⟩
            have BM : Hid (Below w1.heap.size w1 w20) := Lib.hid (bgo BT.out (Nat.le_refl _) mb)
            clear mb
            cases hp : parse l with
            | none =>
              rw [show parseE l = 32 from by unfold parseE; rw [hp]; rfl]
              rw [show parseV l = none0 from by unfold parseV; rw [hp]; rfl]
              rw [show Rv none0 ma mc = .agg #[.int .i64 0, .int .i64 0, .int .i64 0, .slice ma 0 mc] from rfl]
              obtain ⟨W21, hW21⟩ : ∃ W21, w20.alloc (.cells #[.int .i64 0, .int .i64 0, .int .i64 0, .slice ma 0 mc] 26) = W21 := ⟨_, rfl⟩
              have B21 : Hid (Below w1.heap.size w1 W21) := Lib.hid (by rw [← hW21]; exact bgo BM.out (Nat.le_refl _) ((Below.refl _ _).alloc (Nat.le_refl _) _))
              have R21 : Hid (W21.heap[w20.heap.size]? = some (.cells #[.int .i64 0, .int .i64 0, .int .i64 0, .slice ma 0 mc] 26 (0, 0))) := Lib.hid (by rw [← hW21]; exact heap_alloc_new _ _)
              have AV := Lib.hid (alive_any W21 (V1.out.below B21.out) (Nat.lt_of_lt_of_le G1.out B21.out.size))
              clear mrows hp
              go_wp2_with fail
              refine AV.out.mono ?_
              rintro e w22 ⟨rfl, hb22⟩
              have z3 : w22.cell? ⟨w20.heap.size, 3, none⟩ = some (.slice ma 0 mc) := by rw [cell_of_row _ _ _ _ _ _ ((hb22.block _ (Array.getElem?_eq_some_iff.1 R21.out).1).trans R21.out)]; rfl
              have B22 : Hid (Below w1.heap.size w1 w22) := Lib.hid (bgo B21.out (Nat.le_refl _) hb22)
              clear hb22 hW21
              go_wp2
              go_ret
              exact ⟨rfl, bgo BW.out (Nat.le_refl _) B22.out⟩
            | some m =>
              rw [show parseE l = 0 from by unfold parseE; rw [hp]; rfl]
              rw [show parseV l = m from by unfold parseV; rw [hp]; rfl] at mrows ⊢
              rw [show Rv m ma mc = .agg #[.int .i64 m.s, .int .i64 m.o, .int .i64 m.c, .slice ma m.ls.length mc] from rfl]
              obtain ⟨W21, hW21⟩ : ∃ W21, w20.alloc (.cells #[.int .i64 m.s, .int .i64 m.o, .int .i64 m.c, .slice ma m.ls.length mc] 26) = W21 := ⟨_, rfl⟩
              have b21 : Below w20.heap.size w20 W21 := by rw [← hW21]; exact (Below.refl _ _).alloc (Nat.le_refl _) _
              have B21 : Hid (Below w1.heap.size w1 W21) := Lib.hid (bgo BM.out (Nat.le_refl _) b21)
              have r21 : W21.heap[w20.heap.size]? = some (.cells #[.int .i64 m.s, .int .i64 m.o, .int .i64 m.c, .slice ma m.ls.length mc] 26 (0, 0)) := by rw [← hW21]; exact heap_alloc_new _ _
              obtain ⟨dp1, dp2, dp3⟩ := dump_parse hp
              obtain ⟨mb1, mb2⟩ := m_bounds hp L60.out
              have LM := Lib.hid (lines_any m ma mc (m_wr hp) mb1 mb2 W21 (V1.out.below B21.out) (mrows.rlns.below b21))
              have DM := Lib.hid dp1
              have EM := Lib.hid (dumpE_ok dp2)
              unfold Rv LIs at LM
              have z0 : W21.cell? ⟨w20.heap.size, 0, none⟩ = some (.int .i64 m.s) := by rw [cell_of_row _ _ _ _ _ _ r21]; rfl
              have z1 : W21.cell? ⟨w20.heap.size, 1, none⟩ = some (.int .i64 m.o) := by rw [cell_of_row _ _ _ _ _ _ r21]; rfl
              have z2 : W21.cell? ⟨w20.heap.size, 2, none⟩ = some (.int .i64 m.c) := by rw [cell_of_row _ _ _ _ _ _ r21]; rfl
              have z3 : W21.cell? ⟨w20.heap.size, 3, none⟩ = some (.slice ma m.ls.length mc) := by rw [cell_of_row _ _ _ _ _ _ r21]; rfl
              clear mrows hp b21 r21 dp1 dp2 dp3 mb1 mb2
              go_wp2_with fail
              clear hW21 z0 z1 z2 z3
              refine LM.out.mono ?_
              rintro e w22 ⟨v2, rfl, hg2⟩
              rw [EM.out.1]
              rw [EM.out.2, DM.out] at hg2
              obtain ⟨ya, yc, rfl, _, _, hsy⟩ := strs_all hg2.row
              have B22 : Hid (Below w1.heap.size w1 w22) := Lib.hid (bgo B21.out (Nat.le_refl _) hg2.below)
              have LS := Lib.hid (lines_same l ya la yc lc w22 hsy (SR1.out.below B22.out) (by have := L60.out; omega))
              clear hg2 hsy
              go_wp2_with fail
              refine LS.out.mono ?_
              rintro e w23 ⟨rfl, hb23⟩
              have B23 : Hid (Below w1.heap.size w1 w23) := Lib.hid (bgo B22.out (Nat.le_refl _) hb23)
              have AV := Lib.hid (alive_any w23 (V1.out.below B23.out) (Nat.lt_of_lt_of_le G1.out B23.out.size))
              clear hb23
              go_wp2_with fail
              refine AV.out.mono ?_
              rintro e w24 ⟨rfl, hb24⟩
              have B24 : Hid (Below w1.heap.size w1 w24) := Lib.hid (bgo B23.out (Nat.le_refl _) hb24)
              clear hb24
              go_wp2
              go_ret
              exact ⟨rfl, bgo BW.out (Nat.le_refl _) B24.out⟩
          · have hc2 : 1 < xc := by have := HXC.out; omega
            have hc3 : 1 ≤ xc := by omega
            have PT1 : Hid (Calls Tryd.prog 13 #[.slice (some ⟨xg, xo + 1, none⟩) m (xc - 1)] v3 (PIs (dump r).tail v3)) := Lib.hid (by
              have h := parse_any (dump r).tail (some ⟨xg, xo + 1, none⟩) (xc - 1) v3 (V1.out.below BV3.out) (Nat.lt_of_lt_of_le G1.out BV3.out.size) (by have := TLn.out; have := HXC.out; omega) (by have := HXCC.out; omega) (fun x hx => DL.out x (List.mem_of_mem_tail hx)) (by have := TLn.out; have := DLn.out; have := DN.out; omega) (SXT.out v3 (bgo B24.out (Nat.le_refl _) BX3.out))
              rw [TLn.out] at h
              exact h)
            unfold PIs at PT1
            have hxcc := HXCC.out
            have hxc := HXC.out
            go_wp2_with fail
            refine PT1.out.mono ?_
            rintro e w6 ⟨ka, kc, kevs, rfl, _, hb6⟩
            rw [NT.out.1, NT.out.2]
            rw [show Rv none0 ka kc = .agg #[.int .i64 0, .int .i64 0, .int .i64 0, .slice ka 0 kc] from rfl]
            obtain ⟨wt, hwt⟩ : ∃ wt, w6.alloc (.cells #[.int .i64 0, .int .i64 0, .int .i64 0, .slice ka 0 kc] 26) = wt := ⟨_, rfl⟩
            have BT : Hid (Below w1.heap.size w1 wt) := Lib.hid (by rw [← hwt]; exact bgo (bgo BV3.out (Nat.le_refl _) hb6) (Nat.le_refl _) ((Below.refl _ _).alloc (Nat.le_refl _) _))
            have k3 : wt.cell? ⟨w6.heap.size, 3, none⟩ = some (.slice ka 0 kc) := by rw [← hwt, cell_of_row _ _ _ _ _ _ (heap_alloc_new _ _)]; rfl
            clear hb6
            go_wp2_with fail
            clear hwt k3
            have PT := Lib.hid (parse_any l la lc wt (V1.out.below BT.out) (Nat.lt_of_lt_of_le G1.out BT.out.size) HLC.out HLCC.out HLX.out HLN.out (SR1.out.below BT.out))
            go_wp2_with fail
            refine PT.out.mono ?_
            rintro e w20 ⟨ma, mc, mevs, rfl, mrows, mb⟩
            have BM : Hid (Below w1.heap.size w1 w20) := Lib.hid (bgo BT.out (Nat.le_refl _) mb)
            clear mb
            cases hp : parse l with
            | none =>
              rw [show parseE l = 32 from by unfold parseE; rw [hp]; rfl]
              rw [show parseV l = none0 from by unfold parseV; rw [hp]; rfl]
              rw [show Rv none0 ma mc = .agg #[.int .i64 0, .int .i64 0, .int .i64 0, .slice ma 0 mc] from rfl]
              obtain ⟨W21, hW21⟩ : ∃ W21, w20.alloc (.cells #[.int .i64 0, .int .i64 0, .int .i64 0, .slice ma 0 mc] 26) = W21 := ⟨_, rfl⟩
              have B21 : Hid (Below w1.heap.size w1 W21) := Lib.hid (by rw [← hW21]; exact bgo BM.out (Nat.le_refl _) ((Below.refl _ _).alloc (Nat.le_refl _) _))
              have R21 : Hid (W21.heap[w20.heap.size]? = some (.cells #[.int .i64 0, .int .i64 0, .int .i64 0, .slice ma 0 mc] 26 (0, 0))) := Lib.hid (by rw [← hW21]; exact heap_alloc_new _ _)
              have AV := Lib.hid (alive_any W21 (V1.out.below B21.out) (Nat.lt_of_lt_of_le G1.out B21.out.size))
              clear mrows hp
              go_wp2_with fail
              refine AV.out.mono ?_
              rintro e w22 ⟨rfl, hb22⟩
              have z3 : w22.cell? ⟨w20.heap.size, 3, none⟩ = some (.slice ma 0 mc) := by rw [cell_of_row _ _ _ _ _ _ ((hb22.block _ (Array.getElem?_eq_some_iff.1 R21.out).1).trans R21.out)]; rfl
              have B22 : Hid (Below w1.heap.size w1 w22) := Lib.hid (bgo B21.out (Nat.le_refl _) hb22)
              clear hb22 hW21
              go_wp2
              go_ret
              exact ⟨rfl, bgo BW.out (Nat.le_refl _) B22.out⟩
            | some m =>
              rw [show parseE l = 0 from by unfold parseE; rw [hp]; rfl]
              rw [show parseV l = m from by unfold parseV; rw [hp]; rfl] at mrows ⊢
              rw [show Rv m ma mc = .agg #[.int .i64 m.s, .int .i64 m.o, .int .i64 m.c, .slice ma m.ls.length mc] from rfl]
              obtain ⟨W21, hW21⟩ : ∃ W21, w20.alloc (.cells #[.int .i64 m.s, .int .i64 m.o, .int .i64 m.c, .slice ma m.ls.length mc] 26) = W21 := ⟨_, rfl⟩
              have b21 : Below w20.heap.size w20 W21 := by rw [← hW21]; exact (Below.refl _ _).alloc (Nat.le_refl _) _
              have B21 : Hid (Below w1.heap.size w1 W21) := Lib.hid (bgo BM.out (Nat.le_refl _) b21)
              have r21 : W21.heap[w20.heap.size]? = some (.cells #[.int .i64 m.s, .int .i64 m.o, .int .i64 m.c, .slice ma m.ls.length mc] 26 (0, 0)) := by rw [← hW21]; exact heap_alloc_new _ _
              obtain ⟨dp1, dp2, dp3⟩ := dump_parse hp
              obtain ⟨mb1, mb2⟩ := m_bounds hp L60.out
              have LM := Lib.hid (lines_any m ma mc (m_wr hp) mb1 mb2 W21 (V1.out.below B21.out) (mrows.rlns.below b21))
              have DM := Lib.hid dp1
              have EM := Lib.hid (dumpE_ok dp2)
              unfold Rv LIs at LM
              have z0 : W21.cell? ⟨w20.heap.size, 0, none⟩ = some (.int .i64 m.s) := by rw [cell_of_row _ _ _ _ _ _ r21]; rfl
              have z1 : W21.cell? ⟨w20.heap.size, 1, none⟩ = some (.int .i64 m.o) := by rw [cell_of_row _ _ _ _ _ _ r21]; rfl
              have z2 : W21.cell? ⟨w20.heap.size, 2, none⟩ = some (.int .i64 m.c) := by rw [cell_of_row _ _ _ _ _ _ r21]; rfl
              have z3 : W21.cell? ⟨w20.heap.size, 3, none⟩ = some (.slice ma m.ls.length mc) := by rw [cell_of_row _ _ _ _ _ _ r21]; rfl
              clear mrows hp b21 r21 dp1 dp2 dp3 mb1 mb2
              go_wp2_with fail
              clear hW21 z0 z1 z2 z3
              refine LM.out.mono ?_
              rintro e w22 ⟨v2, rfl, hg2⟩
              rw [EM.out.1]
              rw [EM.out.2, DM.out] at hg2
              obtain ⟨ya, yc, rfl, _, _, hsy⟩ := strs_all hg2.row
              have B22 : Hid (Below w1.heap.size w1 w22) := Lib.hid (bgo B21.out (Nat.le_refl _) hg2.below)
              have LS := Lib.hid (lines_same l ya la yc lc w22 hsy (SR1.out.below B22.out) (by have := L60.out; omega))
              clear hg2 hsy
              go_wp2_with fail
              refine LS.out.mono ?_
              rintro e w23 ⟨rfl, hb23⟩
              have B23 : Hid (Below w1.heap.size w1 w23) := Lib.hid (bgo B22.out (Nat.le_refl _) hb23)
              have AV := Lib.hid (alive_any w23 (V1.out.below B23.out) (Nat.lt_of_lt_of_le G1.out B23.out.size))
              clear hb23
              go_wp2_with fail
              refine AV.out.mono ?_
              rintro e w24 ⟨rfl, hb24⟩
              have B24 : Hid (Below w1.heap.size w1 w24) := Lib.hid (bgo B23.out (Nat.le_refl _) hb24)
              clear hb24
              go_wp2
              go_ret
              exact ⟨rfl, bgo BW.out (Nat.le_refl _) B24.out⟩
      · have hk' : okR r = false := by cases h : okR r with | true => exact absurd h hk | false => rfl
        rw [(dumpE_no hk').1]
        rw [(dumpE_no hk').2] at hgv
        have BT : Hid (Below w1.heap.size w1 w2) := Lib.hid hgv.below
        obtain ⟨xa, xc, rfl, _, _, _⟩ := strs_all hgv.row
        obtain ⟨wt, rfl⟩ : ∃ wt, wt = w2 := ⟨_, rfl⟩
        clear hgv hk hk'
        go_wp2_with fail
        have PT := Lib.hid (parse_any l la lc wt (V1.out.below BT.out) (Nat.lt_of_lt_of_le G1.out BT.out.size) HLC.out HLCC.out HLX.out HLN.out (SR1.out.below BT.out))
        go_wp2_with fail
        refine PT.out.mono ?_
        rintro e w20 ⟨ma, mc, mevs, rfl, mrows, mb⟩
        have BM : Hid (Below w1.heap.size w1 w20) := Lib.hid (bgo BT.out (Nat.le_refl _) mb)
        clear mb
        cases hp : parse l with
        | none =>
          rw [show parseE l = 32 from by unfold parseE; rw [hp]; rfl]
          rw [show parseV l = none0 from by unfold parseV; rw [hp]; rfl]
          rw [show Rv none0 ma mc = .agg #[.int .i64 0, .int .i64 0, .int .i64 0, .slice ma 0 mc] from rfl]
          obtain ⟨W21, hW21⟩ : ∃ W21, w20.alloc (.cells #[.int .i64 0, .int .i64 0, .int .i64 0, .slice ma 0 mc] 26) = W21 := ⟨_, rfl⟩
          have B21 : Hid (Below w1.heap.size w1 W21) := Lib.hid (by rw [← hW21]; exact bgo BM.out (Nat.le_refl _) ((Below.refl _ _).alloc (Nat.le_refl _) _))
          have R21 : Hid (W21.heap[w20.heap.size]? = some (.cells #[.int .i64 0, .int .i64 0, .int .i64 0, .slice ma 0 mc] 26 (0, 0))) := Lib.hid (by rw [← hW21]; exact heap_alloc_new _ _)
          have AV := Lib.hid (alive_any W21 (V1.out.below B21.out) (Nat.lt_of_lt_of_le G1.out B21.out.size))
          clear mrows hp
          go_wp2_with fail
          refine AV.out.mono ?_
          rintro e w22 ⟨rfl, hb22⟩
          have z3 : w22.cell? ⟨w20.heap.size, 3, none⟩ = some (.slice ma 0 mc) := by rw [cell_of_row _ _ _ _ _ _ ((hb22.block _ (Array.getElem?_eq_some_iff.1 R21.out).1).trans R21.out)]; rfl
          have B22 : Hid (Below w1.heap.size w1 w22) := Lib.hid (bgo B21.out (Nat.le_refl _) hb22)
          clear hb22 hW21
          go_wp2
          go_ret
          exact ⟨rfl, bgo BW.out (Nat.le_refl _) B22.out⟩
        | some m =>
          rw [show parseE l = 0 from by unfold parseE; rw [hp]; rfl]
          rw [show parseV l = m from by unfold parseV; rw [hp]; rfl] at mrows ⊢
          rw [show Rv m ma mc = .agg #[.int .i64 m.s, .int .i64 m.o, .int .i64 m.c, .slice ma m.ls.length mc] from rfl]
          obtain ⟨W21, hW21⟩ : ∃ W21, w20.alloc (.cells #[.int .i64 m.s, .int .i64 m.o, .int .i64 m.c, .slice ma m.ls.length mc] 26) = W21 := ⟨_, rfl⟩
          have b21 : Below w20.heap.size w20 W21 := by rw [← hW21]; exact (Below.refl _ _).alloc (Nat.le_refl _) _
          have B21 : Hid (Below w1.heap.size w1 W21) := Lib.hid (bgo BM.out (Nat.le_refl _) b21)
          have r21 : W21.heap[w20.heap.size]? = some (.cells #[.int .i64 m.s, .int .i64 m.o, .int .i64 m.c, .slice ma m.ls.length mc] 26 (0, 0)) := by rw [← hW21]; exact heap_alloc_new _ _
          obtain ⟨dp1, dp2, dp3⟩ := dump_parse hp
          obtain ⟨mb1, mb2⟩ := m_bounds hp L60.out
          have LM := Lib.hid (lines_any m ma mc (m_wr hp) mb1 mb2 W21 (V1.out.below B21.out) (mrows.rlns.below b21))
          have DM := Lib.hid dp1
          have EM := Lib.hid (dumpE_ok dp2)
          unfold Rv LIs at LM
          have z0 : W21.cell? ⟨w20.heap.size, 0, none⟩ = some (.int .i64 m.s) := by rw [cell_of_row _ _ _ _ _ _ r21]; rfl
          have z1 : W21.cell? ⟨w20.heap.size, 1, none⟩ = some (.int .i64 m.o) := by rw [cell_of_row _ _ _ _ _ _ r21]; rfl
          have z2 : W21.cell? ⟨w20.heap.size, 2, none⟩ = some (.int .i64 m.c) := by rw [cell_of_row _ _ _ _ _ _ r21]; rfl
          have z3 : W21.cell? ⟨w20.heap.size, 3, none⟩ = some (.slice ma m.ls.length mc) := by rw [cell_of_row _ _ _ _ _ _ r21]; rfl
          clear mrows hp b21 r21 dp1 dp2 dp3 mb1 mb2
          go_wp2_with fail
          clear hW21 z0 z1 z2 z3
          refine LM.out.mono ?_
          rintro e w22 ⟨v2, rfl, hg2⟩
          rw [EM.out.1]
          rw [EM.out.2, DM.out] at hg2
          obtain ⟨ya, yc, rfl, _, _, hsy⟩ := strs_all hg2.row
          have B22 : Hid (Below w1.heap.size w1 w22) := Lib.hid (bgo B21.out (Nat.le_refl _) hg2.below)
          have LS := Lib.hid (lines_same l ya la yc lc w22 hsy (SR1.out.below B22.out) (by have := L60.out; omega))
          clear hg2 hsy
          go_wp2_with fail
          refine LS.out.mono ?_
          rintro e w23 ⟨rfl, hb23⟩
          have B23 : Hid (Below w1.heap.size w1 w23) := Lib.hid (bgo B22.out (Nat.le_refl _) hb23)
          have AV := Lib.hid (alive_any w23 (V1.out.below B23.out) (Nat.lt_of_lt_of_le G1.out B23.out.size))
          clear hb23
          go_wp2_with fail
          refine AV.out.mono ?_
          rintro e w24 ⟨rfl, hb24⟩
          have B24 : Hid (Below w1.heap.size w1 w24) := Lib.hid (bgo B23.out (Nat.le_refl _) hb24)
          clear hb24
          go_wp2
          go_ret
          exact ⟨rfl, bgo BW.out (Nat.le_refl _) B24.out⟩
end Pd
end Go.Proofs.YtheldnamllnkeaaDoor
