/- DumpParses, whole. -/
import Derived.Test.YtheldnamllnkeaaDoorDmpRPar
import Derived.Test.YtheldnamllnkeaaDoorDmpThere
namespace Go.Proofs.YtheldnamllnkeaaDoor
namespace Pq
open Go.RowKit Dsk Go.Maps Pd
set_option maxRecDepth 100000
set_option linter.unusedVariables false

theorem rparse_any (l : List (List UInt8)) (a : Option Addr) (c : Nat) (w : World) (hl : ∀ x ∈ l, x.length ≤ 900000) (hr : l.length ≤ 900000) (hR : SRow w a l) :
    Calls Tryd.prog 14 #[.slice a l.length c] w (PRIs l w) := by
  cases l with
  | nil => exact rparse_nil a c w
  | cons s r => exact rparse_cons s r a c w hl (by simp only [List.length_cons] at hr; omega) hR
theorem pv_bounds (l : List (List UInt8)) (hl : l.length ≤ 60) : (parseV l).ls.length ≤ 60 ∧ ∀ x ∈ (parseV l).ls, x.es.length ≤ 1000 := by
  cases h : parse l with
  | none => rw [(parse_bad h).1]; exact ⟨Nat.zero_le _, fun x hx => by cases hx⟩
  | some m =>
    rw [(parse_ok h).1]
    obtain ⟨h1, h2⟩ := m_bounds h hl
    exact ⟨h1, fun x hx => by have := h2 x hx; omega⟩
set_option maxHeartbeats 4000000 in
theorem parses_any (l : List (List UInt8)) (la : Option Addr) (lc : Nat) (w : World) (hv : Vs w) (hg : 0 < w.heap.size)
    (hL : SRow w la l) (hln : l.length ≤ 9223372036854775807) (hlx : ∀ x ∈ l, x.length ≤ 9223372036854775807) (hlc : l.length ≤ lc) (hlcc : lc ≤ 9223372036854775807) :
    Calls Tryd.prog 4 #[.slice la l.length lc] w fun e w' => e = .returned (.bool true) ∧ Below w.heap.size w w' := by
  have TX := Lib.hid (texts_any l la lc w hL hln hlx)
  have V0 := Lib.hid hv
  have G0 := Lib.hid hg
  have SR := Lib.hid hL
  have HLC := Lib.hid hlc
  have HLCC := Lib.hid hlcc
  clear hv hg hL hln hlx hlc hlcc
  go_enter Tryd.func4, Tryd.ntmps4
  go_wp2_with fail
  refine TX.out.mono ?_
  rintro e w1 ⟨rfl, rfl⟩
  cases hT : textB l with
  | false =>
    have AV := Lib.hid (alive_any w V0.out G0.out)
    clear hT
    go_wp2_with fail
    refine AV.out.mono ?_
    rintro e w2 ⟨rfl, hb2⟩
    have B2 : Hid (Below w.heap.size w w2) := Lib.hid hb2
    clear hb2
    go_wp2
    go_ret
    exact ⟨rfl, B2.out⟩
  | true =>
    obtain ⟨l60, l200⟩ := textB_yes hT
    have PB := Lib.hid (pv_bounds l l60)
    have PX := Lib.hid (parse_any l la lc w V0.out G0.out HLC.out HLCC.out (fun x hx => by have := l200 x hx; omega) (by omega) SR.out)
    have RX : Hid (∀ W, Below w.heap.size w W → Calls Tryd.prog 14 #[.slice la l.length lc] W (PRIs l W)) := Lib.hid fun W hb => rparse_any l la lc W (fun x hx => by have := l200 x hx; omega) (by omega) (SR.out.below hb)
    unfold PIs at PX
    unfold PRIs at RX
    obtain ⟨r, hr⟩ : ∃ r, r = parseV l := ⟨_, rfl⟩
    obtain ⟨er, her⟩ : ∃ er, er = parseE l := ⟨_, rfl⟩
    rw [← hr] at PB PX RX
    rw [← her] at PX RX
    clear hT l60 l200 hr her
    go_wp2_with fail
    refine PX.out.mono ?_
    rintro e w2 ⟨pa, pc, pevs, rfl, prows, pb⟩
    rw [show Rv r pa pc = .agg #[.int .i64 r.s, .int .i64 r.o, .int .i64 r.c, .slice pa r.ls.length pc] from rfl]
    obtain ⟨W3, hW3⟩ : ∃ W3, w2.alloc (.cells #[.int .i64 r.s, .int .i64 r.o, .int .i64 r.c, .slice pa r.ls.length pc] 26) = W3 := ⟨_, rfl⟩
    have b3 : Below w2.heap.size w2 W3 := by rw [← hW3]; exact (Below.refl _ _).alloc (Nat.le_refl _) _
    have R3 : Hid (W3.heap[w2.heap.size]? = some (.cells #[.int .i64 r.s, .int .i64 r.o, .int .i64 r.c, .slice pa r.ls.length pc] 26 (0, 0))) := Lib.hid (by rw [← hW3]; exact heap_alloc_new _ _)
    have B3 : Hid (Below w.heap.size w W3) := Lib.hid (bgo pb (Nat.le_refl _) b3)
    have RL3 := Lib.hid (prows.rlns.below b3)
    have RX3 := Lib.hid (RX.out W3 B3.out)
    clear prows pb b3
    go_wp2_with fail
    clear hW3
    refine RX3.out.mono ?_
    rintro e w4 ⟨qa, qc, rfl, ql, qb⟩
    rw [show Rv r qa qc = .agg #[.int .i64 r.s, .int .i64 r.o, .int .i64 r.c, .slice qa r.ls.length qc] from rfl]
    obtain ⟨W5, hW5⟩ : ∃ W5, w4.alloc (.cells #[.int .i64 r.s, .int .i64 r.o, .int .i64 r.c, .slice qa r.ls.length qc] 36) = W5 := ⟨_, rfl⟩
    have b5 : Below w4.heap.size w4 W5 := by rw [← hW5]; exact (Below.refl _ _).alloc (Nat.le_refl _) _
    have R5 : Hid (W5.heap[w4.heap.size]? = some (.cells #[.int .i64 r.s, .int .i64 r.o, .int .i64 r.c, .slice qa r.ls.length qc] 36 (0, 0))) := Lib.hid (by rw [← hW5]; exact heap_alloc_new _ _)
    have b35 : Below W3.heap.size W3 W5 := bgo qb (Nat.le_refl _) b5
    have B5 : Hid (Below w.heap.size w W5) := Lib.hid (bgo B3.out (Nat.le_refl _) b35)
    have R35 : Hid (W5.heap[w2.heap.size]? = some (.cells #[.int .i64 r.s, .int .i64 r.o, .int .i64 r.c, .slice pa r.ls.length pc] 26 (0, 0))) := Lib.hid ((b35.block _ (Array.getElem?_eq_some_iff.1 R3.out).1).trans R3.out)
    have RP5 := Lib.hid (RL3.out.below b35)
    have RQ5 := Lib.hid (ql.below b5)
    have SK : Hid (∀ w', Below W5.heap.size W5 w' → w'.cell? ⟨w2.heap.size, 0, none⟩ = some (.int .i64 r.s) ∧ w'.cell? ⟨w2.heap.size, 1, none⟩ = some (.int .i64 r.o) ∧ w'.cell? ⟨w2.heap.size, 2, none⟩ = some (.int .i64 r.c) ∧ w'.cell? ⟨w2.heap.size, 3, none⟩ = some (.slice pa r.ls.length pc) ∧ w'.cell? ⟨w4.heap.size, 0, none⟩ = some (.int .i64 r.s) ∧ w'.cell? ⟨w4.heap.size, 1, none⟩ = some (.int .i64 r.o) ∧ w'.cell? ⟨w4.heap.size, 2, none⟩ = some (.int .i64 r.c) ∧ w'.cell? ⟨w4.heap.size, 3, none⟩ = some (.slice qa r.ls.length qc)) := Lib.hid fun w' hb => by
      have k1 := (hb.block _ (Array.getElem?_eq_some_iff.1 R35.out).1).trans R35.out
      have k2 := (hb.block _ (Array.getElem?_eq_some_iff.1 R5.out).1).trans R5.out
      exact ⟨by rw [cell_of_row _ _ _ _ _ _ k1]; rfl, by rw [cell_of_row _ _ _ _ _ _ k1]; rfl, by rw [cell_of_row _ _ _ _ _ _ k1]; rfl, by rw [cell_of_row _ _ _ _ _ _ k1]; rfl, by rw [cell_of_row _ _ _ _ _ _ k2]; rfl, by rw [cell_of_row _ _ _ _ _ _ k2]; rfl, by rw [cell_of_row _ _ _ _ _ _ k2]; rfl, by rw [cell_of_row _ _ _ _ _ _ k2]; rfl⟩
    have OFV : Hid (∀ W, Below W5.heap.size W5 W → Calls Tryd.prog 10 #[.agg #[.int .i64 r.s, .int .i64 r.o, .int .i64 r.c, .slice pa r.ls.length pc]] W (OfL r W)) := Lib.hid fun W hb => of_any r pa pc W (RP5.out.below hb) PB.out.1
    have QB : Hid (∀ W, Below W5.heap.size W5 W → RLns W qa r.ls) := Lib.hid fun W hb => RQ5.out.below hb
    clear ql qb b5 b35
    go_wp2_with fail
    clear hW5
    go_region_held3 (fun w' => w'.cell? ⟨w2.heap.size, 0, none⟩ = some (.int .i64 r.s) ∧ w'.cell? ⟨w2.heap.size, 1, none⟩ = some (.int .i64 r.o) ∧ w'.cell? ⟨w2.heap.size, 2, none⟩ = some (.int .i64 r.c) ∧ w'.cell? ⟨w2.heap.size, 3, none⟩ = some (.slice pa r.ls.length pc) ∧ w'.cell? ⟨w4.heap.size, 0, none⟩ = some (.int .i64 r.s) ∧ w'.cell? ⟨w4.heap.size, 1, none⟩ = some (.int .i64 r.o) ∧ w'.cell? ⟨w4.heap.size, 2, none⟩ = some (.int .i64 r.c) ∧ w'.cell? ⟨w4.heap.size, 3, none⟩ = some (.slice qa r.ls.length qc))
      (exact SK.out _ (by first | exact BX2.out | exact BX1.out | exact (Below.refl _ _).drew))
      (first
        | (go_at_call 10; refine (OFV.out _ ((Below.refl _ _).drew)).mono ?_; rintro e v1 ⟨a1, c1, rfl, hr1, hb1⟩; have BX1 : Hid (Below W5.heap.size W5 v1) := Lib.hid (drB hb1); have RX1 := Lib.hid hr1; clear hr1 hb1)
        | (go_at_call 15; refine (same_yes r _ _ _ _ _ RX1.out (QB.out _ BX1.out) PB.out.1 PB.out.2).mono ?_; rintro e v2 ⟨rfl, hb2⟩; have BX2 : Hid (Below W5.heap.size W5 v2) := Lib.hid (bgo BX1.out (Nat.le_refl _) hb2); clear hb2))
    all_goals
      have BV : Hid (Below w.heap.size w v2) := Lib.hid (bgo B5.out (Nat.le_refl _) BX2.out)
      have AV := Lib.hid (alive_any v2 (V0.out.below BV.out) (Nat.lt_of_lt_of_le G0.out BV.out.size))
      go_wp2_with fail
      refine AV.out.mono ?_
      rintro e w6 ⟨rfl, hb6⟩
      have B6 : Hid (Below w.heap.size w w6) := Lib.hid (bgo BV.out (Nat.le_refl _) hb6)
      clear hb6
      go_wp2
      go_ret
      exact ⟨rfl, B6.out⟩
end Pq
end Go.Proofs.YtheldnamllnkeaaDoor
