/- The loop of GeomPieces. -/
import Derived.Test.YtkjlcjiegoillaaGeomPieces
import Derived.Deep.DeepCutAuto
namespace Go.Proofs.Ytkjlcjiegoillaa
namespace Geo
open Go.RowKit
set_option linter.unusedVariables false

/-- A row of pieces, read: whatever its length. -/
theorem row_any {w : World} {base : Nat} {v : Value} {l : List Em.Pc} (h : w.ownsRow base 43 3 v l.length (pcells l)) : ∃ p g c, v = .slice p l.length c ∧ (l ≠ [] → p = some ⟨g, 0, none⟩ ∧ base ≤ g ∧ g < w.heap.size) ∧
    ∀ i (hi : i < l.length), w.cell? ⟨g, i * 3, none⟩ = some (.int .i64 (l[i].c : Int)) ∧ w.cell? ⟨g, i * 3 + 1, none⟩ = some (.int .i64 (l[i].f : Int)) ∧ w.cell? ⟨g, i * 3 + 2, none⟩ = some (.int .i64 (l[i].n : Int)) := by
  by_cases hl : l = []
  · subst hl
    rcases h.2 with ⟨h1, h0⟩ | ⟨g, cap, cur, rfl, _⟩
    · exact ⟨none, 0, 0, h1, fun c => (c rfl).elim, fun i hi => by simp at hi⟩
    · exact ⟨_, g, cap, rfl, fun c => (c rfl).elim, fun i hi => by simp at hi⟩
  · obtain ⟨g, c, e, h1, h2, h3⟩ := row_cells h hl
    exact ⟨_, g, c, e, fun _ => ⟨rfl, h1, h2⟩, fun i hi => by rw [Nat.mul_comm i 3]; exact h3 i hi⟩

theorem two_other {w : World} {g : Nat} {x y : Value} {a : Addr} (h : a.block ≠ g) : ((w.setCell ⟨g, 0, none⟩ x).setCell ⟨g, 1, none⟩ y).cell? a = w.cell? a :=
  World.cell?_of_block (by rw [Below.heap_setCell _ _ _ _ h, Below.heap_setCell _ _ _ _ h])
/-- Behind the span's call: a new block holds it. -/
structure Spot (wr w3 : World) (b : Nat) (st ln : Int) : Prop where
  bel : Below wr.heap.size wr w3
  cells : w3.heap[b]? = some (.cells #[.int .i64 st, .int .i64 ln] 25 (0, 0))
theorem spot_a {wr w2 : World} (h : Below wr.heap.size wr w2) (st ln : Int) : Spot wr (w2.alloc (.cells #[.int .i64 st, .int .i64 ln] 25)) w2.heap.size st ln :=
  ⟨h.alloc h.size _, heap_alloc_new _ _⟩
theorem spot_b {wr w2 : World} (h : Below wr.heap.size wr w2) (hn : w2.heap[wr.heap.size]? = some (.cells #[.int .i64 0, .int .i64 0] 25 (0, 0))) (st ln : Int) :
    Spot wr ((w2.setCell ⟨wr.heap.size, 0, none⟩ (.int .i64 st)).setCell ⟨wr.heap.size, 1, none⟩ (.int .i64 ln)) wr.heap.size st ln :=
  ⟨(h.setCell (p := ⟨wr.heap.size, 0, none⟩) (Nat.le_refl _) _).setCell (p := ⟨wr.heap.size, 1, none⟩) (Nat.le_refl _) _, two_set hn _ _⟩
theorem Spot.s0 {wr w3 : World} {b : Nat} {st ln : Int} (h : Spot wr w3 b st ln) : w3.cell? ⟨b, 0, none⟩ = some (.int .i64 st) := by rw [cell_of_row _ _ _ _ _ _ h.cells]; rfl
theorem Spot.s1 {wr w3 : World} {b : Nat} {st ln : Int} (h : Spot wr w3 b st ln) : w3.cell? ⟨b, 1, none⟩ = some (.int .i64 ln) := by rw [cell_of_row _ _ _ _ _ _ h.cells]; rfl
theorem below_drewN {b : Nat} {w w' : World} (h : Below b w w') (n : Nat) : Below b w (w'.drewN n) := ⟨h.os, h.tape, h.output, h.size, h.block⟩
/-- What is said of the piece at i. -/
structure PAt (o c a m i : Nat) (x : Em.Pc) (st ln at_ : Nat) : Prop where
  k : x.c < Em.parts o c
  s : st = x.c * c
  l : ln = min c (o - x.c * c)
  pos : st + x.f = at_
  n : 1 ≤ x.n
  fit : x.f + x.n ≤ ln
  first : 0 < i → x.f = 0
  low : at_ < a + m
theorem PAt.of {o c a m : Nat} (hc : 0 < c) (ham : a + m ≤ o) (i : Nat) (hi : i < (Em.split c a m).length) :
    PAt o c a m i (Em.split c a m)[i] ((Em.split c a m)[i].c * c) (min c (o - (Em.split c a m)[i].c * c)) (a + (((Em.split c a m).take i).map Em.Pc.n).sum) := by
  obtain ⟨at_, e, h1, h2, h3, h4, h5⟩ := Em.cut_get hc m a (a + m) (by omega) (by omega) i _ (List.getElem?_eq_getElem hi)
  have hm := Nat.mod_lt at_ hc
  have hd := Nat.div_add_mod at_ c
  rw [Nat.mul_comm] at hd
  have e1 : (Em.split c a m)[i].c = at_ / c := h1
  have e2 : (Em.split c a m)[i].f = at_ % c := h2
  have e4 : (Em.split c a m)[i].n = min (c - at_ % c) (a + m - at_) := h4
  have e' : a + (((Em.split c a m).take i).map Em.Pc.n).sum = at_ := e.symm
  rw [e']
  refine ⟨?_, rfl, rfl, ?_, ?_, ?_, fun h => ?_, h3⟩
  · rw [Em.parts_lt hc, e1]; omega
  · rw [e1, e2]; exact hd
  · rw [e4]; omega
  · rw [e1, e2, e4]; omega
  · rw [e2]; exact h5 h

set_option maxRecDepth 100000 in
set_option maxHeartbeats 1000000 in
theorem pieces_yes (o c a m : Nat) (w : World) (hr : Em.rightB o c = true) (ham : a + m ≤ o) (hl : m ≤ 4000) :
    Calls Try.prog 4 #[.agg #[.int .i64 (o : Int), .int .i64 (c : Int)], .agg #[.int .i64 (a : Int), .int .i64 (m : Int)]] w fun e w' => e = .returned (.bool true) ∧ Below w.heap.size w w' := by
  have C := Lib.hid (fun w1 => split_ok o c a m w1 hr ham)
  have SP := Lib.hid (fun k w1 => span_ok o c k w1 hr)
  have AL := Lib.hid alive_any
  obtain ⟨h1, h2, h3, h4⟩ := (Em.right_iff _ _).1 hr
  have E : Hid (∀ w1 : World, Calls Try.prog 9 #[.agg #[.int .i64 (o : Int), .int .i64 (c : Int)], .int .i64 (a : Int), .int .i64 ((o : Int) - (a : Int) + 1)] w1 fun r w' => r = .returned (.tuple #[.slice none 0 0, .int .i64 2]) ∧ Below w1.heap.size w1 w') := by
    intro w1
    have e2 : splitE o c a ((o : Int) - (a : Int) + 1) = 2 := by
      rcases splitE_right hr (a := (a : Int)) (m := (o : Int) - (a : Int) + 1) with h | h
      · omega
      · exact h.1
    have := split_no (o : Int) (c : Int) (a : Int) ((o : Int) - (a : Int) + 1) w1 (by omega) (by omega) (by rw [e2]; decide)
    rw [e2] at this
    exact this
  obtain ⟨W0, hW0⟩ : ∃ W0, (w.alloc (.cells #[.int .i64 (o : Int), .int .i64 (c : Int)] 23)).alloc (.cells #[.int .i64 (a : Int), .int .i64 (m : Int)] 25) = W0 := ⟨_, rfl⟩
  obtain ⟨hB, hsz, g0, g1, x0, x1⟩ := two_boxes w o c a m W0 hW0
  have HB := Lib.hid hB
  have hs0 : w.heap.size < W0.heap.size := by omega
  have hs1 : w.heap.size + 1 < W0.heap.size := by omega
  have hd : decide (4000 < (m : Int)) = false := by simp; omega
  have hpl := Em.split_length c a m
  have PT := Lib.hid (fun i hi => PAt.of (o := o) (c := c) (a := a) (m := m) (by omega) ham i hi)
  have SUM := Lib.hid (Em.cut_sum (c := c) (by omega) m a (a + m) (by omega) (by omega))
  have ho : o ≤ 1048576 := by omega
  clear hB hsz hr h1 h2
  go_enter Try.func4, Try.ntmps4
  go_wp2_with fail
  clear hW0
  refine (C.out _).mono ?_
  rintro e w1 ⟨v, rfl, hrow, hb⟩
  obtain ⟨p, g, vc, rfl, hp, hcs⟩ := row_any hrow
  have HP := Lib.hid hp
  have HCS := Lib.hid hcs
  obtain ⟨n, hn⟩ : ∃ n, n = (Em.split c a m).length := ⟨_, rfl⟩
  rw [← hn] at hpl ⊢
  have HN := Lib.hid hn
  replace g0 := (hb.cell (p := ⟨w.heap.size, 0, none⟩) hs0).trans g0
  replace g1 := (hb.cell (p := ⟨w.heap.size, 1, none⟩) hs0).trans g1
  replace x0 := (hb.cell (p := ⟨w.heap.size + 1, 0, none⟩) hs1).trans x0
  replace x1 := (hb.cell (p := ⟨w.heap.size + 1, 1, none⟩) hs1).trans x1
  replace hs0 := Nat.lt_of_lt_of_le hs0 hb.size
  replace hs1 := Nat.lt_of_lt_of_le hs1 hb.size
  replace HB := Lib.hid (HB.out.trans (hb.mono HB.out.size))
  clear hb hrow hp hcs hn C
  go_wp2_with fail
  go_loopw [7, 8] (fun t i wr => ∃ k : Nat, k ≤ n ∧ i = .int .i64 k ∧ t = .int .i64 ((a + (((Em.split c a m).take k).map Em.Pc.n).sum : Nat) : Int) ∧ Hid (Below w1.heap.size w1 wr)) (fun _ i _ => n - (intOf i).toNat)
  case atStart => exact ⟨0, Nat.zero_le _, rfl, by simp, Lib.hid (Below.refl _ _)⟩
  case round =>
    obtain ⟨k, hk, rfl, rfl, hbel⟩ := hrel
    have c0 := (hbel.out.cell (p := ⟨w.heap.size, 0, none⟩) hs0).trans g0
    have c1 := (hbel.out.cell (p := ⟨w.heap.size, 1, none⟩) hs0).trans g1
    have y0 := (hbel.out.cell (p := ⟨w.heap.size + 1, 0, none⟩) hs1).trans x0
    have y1 := (hbel.out.cell (p := ⟨w.heap.size + 1, 1, none⟩) hs1).trans x1
    by_cases hlt : k < n
    · have hkl : k < (Em.split c a m).length := by rw [← HN.out]; exact hlt
      have hne : Em.split c a m ≠ [] := by intro e; rw [e] at hkl; simp at hkl
      obtain ⟨rfl, hg1, hg2⟩ := HP.out hne
      obtain ⟨r0, r1, r2⟩ := HCS.out k hkl
      replace r0 := (hbel.out.cell (p := ⟨g, k * 3, none⟩) hg2).trans r0
      replace r1 := (hbel.out.cell (p := ⟨g, k * 3 + 1, none⟩) hg2).trans r1
      replace r2 := (hbel.out.cell (p := ⟨g, k * 3 + 2, none⟩) hg2).trans r2
      have pt := PT.out k hkl
      have sums : a + (((Em.split c a m).take (k + 1)).map Em.Pc.n).sum = a + (((Em.split c a m).take k).map Em.Pc.n).sum + (Em.split c a m)[k].n := by
        rw [List.take_add_one, List.getElem?_eq_getElem hkl, List.map_append, List.sum_append]; simp only [Option.toList_some, List.map_cons, List.map_nil, List.sum_cons, List.sum_nil]; omega
      have SUMS := Lib.hid sums
      obtain ⟨t, ht⟩ : ∃ t, t = a + (((Em.split c a m).take k).map Em.Pc.n).sum := ⟨_, rfl⟩
      rw [← ht] at pt SUMS ⊢
      obtain ⟨⟨pc, pf, pn⟩, hx⟩ : ∃ x, x = (Em.split c a m)[k] := ⟨_, rfl⟩
      rw [← hx] at pt SUMS r0 r1 r2
      obtain ⟨q1, q2, q3, q4, q5, q6, q7, q8⟩ := pt
      dsimp only at q1 q2 q3 q4 q5 q6 q7 r0 r1 r2 SUMS
      have S1 := Lib.hid (fun w1 => SP.out pc w1 q1)
      obtain ⟨st, hste⟩ : ∃ st, st = pc * c := ⟨_, rfl⟩
      obtain ⟨ln, hlne⟩ : ∃ ln, ln = min c (o - pc * c) := ⟨_, rfl⟩
      rw [← hlne, ← hste] at S1
      rw [← hlne] at q6
      rw [← hste] at q4
      have hst : st ≤ 1048576 := by omega
      have hpk : pc ≤ 1048576 := by have := Em.parts_le o c; omega
      have hln : ln ≤ 128 := by omega
      have hbg : g < wr.heap.size := Nat.lt_of_lt_of_le hg2 hbel.out.size
      have hbw : w.heap.size < wr.heap.size := Nat.lt_of_lt_of_le hs0 hbel.out.size
      have RR := Lib.hid (And.intro r1 r2)
      clear q1 q2 q3 hx ht sums hkl hne r1 r2 y0 y1 hste hlne HP
      go_upto_region 10 with fail
      go_cut [9, 10] from 49 to 129 (fun s9 s10 wx => ∃ bs, s9 = .pointer (some ⟨bs, 0, none⟩) ∧ s10 = .int .i64 0 ∧ Hid (Spot wr wx bs st ln))
      case first =>
        go_region_held3 (fun w' => w'.cell? ⟨w.heap.size, 0, none⟩ = some (.int .i64 (o : Int)) ∧ w'.cell? ⟨w.heap.size, 1, none⟩ = some (.int .i64 (c : Int)) ∧ w'.cell? ⟨g, k * 3, none⟩ = some (.int .i64 (pc : Int)))
          (first | go_keep | (refine ⟨?_, ?_, ?_⟩ <;> assumption) | (exact ⟨(BX.out.cell (p := ⟨w.heap.size, 0, none⟩) hbw).trans c0, (BX.out.cell (p := ⟨w.heap.size, 1, none⟩) hbw).trans c1, (BX.out.cell (p := ⟨g, k * 3, none⟩) hbg).trans r0⟩) | (exact ⟨(World.cell?_of_block (a := ⟨w.heap.size, 0, none⟩) (Below.heap_alloc _ _ _ (Nat.lt_of_lt_of_le hbw BX.out.size))).trans ((BX.out.cell (p := ⟨w.heap.size, 0, none⟩) hbw).trans c0), (World.cell?_of_block (a := ⟨w.heap.size, 1, none⟩) (Below.heap_alloc _ _ _ (Nat.lt_of_lt_of_le hbw BX.out.size))).trans ((BX.out.cell (p := ⟨w.heap.size, 1, none⟩) hbw).trans c1), (World.cell?_of_block (a := ⟨g, k * 3, none⟩) (Below.heap_alloc _ _ _ (Nat.lt_of_lt_of_le hbg BX.out.size))).trans ((BX.out.cell (p := ⟨g, k * 3, none⟩) hbg).trans r0)⟩) | (exact ⟨(World.cell?_of_block (a := ⟨w.heap.size, 0, none⟩) (Below.heap_alloc wr _ _ hbw)).trans c0, (World.cell?_of_block (a := ⟨w.heap.size, 1, none⟩) (Below.heap_alloc wr _ _ hbw)).trans c1, (World.cell?_of_block (a := ⟨g, k * 3, none⟩) (Below.heap_alloc wr _ _ hbg)).trans r0⟩) | (exact ⟨(two_other (a := ⟨w.heap.size, 0, none⟩) (Nat.ne_of_lt hbw)).trans ((BX.out.cell (p := ⟨w.heap.size, 0, none⟩) hbw).trans c0), (two_other (a := ⟨w.heap.size, 1, none⟩) (Nat.ne_of_lt hbw)).trans ((BX.out.cell (p := ⟨w.heap.size, 1, none⟩) hbw).trans c1), (two_other (a := ⟨g, k * 3, none⟩) (Nat.ne_of_lt hbg)).trans ((BX.out.cell (p := ⟨g, k * 3, none⟩) hbg).trans r0)⟩))
          (first | (go_at_call 7; refine (S1.out _).mono ?_; rintro e w2 ⟨rfl, hb2⟩; have BX : Hid (Below wr.heap.size wr w2) := (Below.refl _ _).drew.trans hb2; clear hb2) | (go_at_call 7; refine (S1.out _).mono ?_; rintro e w2 ⟨rfl, hb2⟩; have BX : Hid (Below wr.heap.size wr w2) := ((Below.refl wr.heap.size wr).alloc (Nat.le_refl _) _).drew.trans (hb2.mono (by simp)); have NB : Hid (w2.heap[wr.heap.size]? = some (.cells #[.int .i64 0, .int .i64 0] 25 (0, 0))) := (hb2.block _ (by simp)).trans (heap_alloc_new wr _); have nz0 : w2.cell? ⟨wr.heap.size, 0, none⟩ = some (.int .i64 0) := (cell_of_row _ _ _ _ _ _ NB.out).trans rfl; have nz1 : w2.cell? ⟨wr.heap.size, 1, none⟩ = some (.int .i64 0) := (cell_of_row _ _ _ _ _ _ NB.out).trans rfl; have nzf := fun j => frozen_of_row (j := j) _ _ _ _ NB.out; clear hb2))
        all_goals
          go_wp2_with fail
          go_meet
          first
          | exact ⟨_, rfl, rfl, Lib.hid (spot_b BX.out NB.out (st : Int) (ln : Int))⟩
          | exact ⟨_, rfl, rfl, Lib.hid (spot_a BX.out (st : Int) (ln : Int))⟩
      case rest =>
      obtain ⟨bs, rfl, rfl, SPOT⟩ := hcut
      obtain ⟨W3, hW3⟩ : ∃ W3, wc = W3 := ⟨_, rfl⟩
      rw [hW3] at SPOT ⊢
      clear hW3
      have s0 := SPOT.out.s0
      have s1 := SPOT.out.s1
      have z1 := (SPOT.out.bel.cell (p := ⟨g, k * 3 + 1, none⟩) hbg).trans RR.out.1
      have z2 := (SPOT.out.bel.cell (p := ⟨g, k * 3 + 2, none⟩) hbg).trans RR.out.2
      have SB := Lib.hid (hbel.out.trans (SPOT.out.bel.mono hbel.out.size))
      have e1 : (st : Int) + (pf : Int) = (t : Int) := by omega
      have e2 : decide ((pn : Int) < 1) = false := by simp; omega
      have e3 : decide ((pf : Int) < 0) = false := by simp
      have e4 : decide ((ln : Int) < (pf : Int) + (pn : Int)) = false := by simp; omega
      have hpn : pn ≤ 128 := by omega
      have hpf : pf ≤ 128 := by omega
      have ht1 : t ≤ 1048576 := by omega
      have hwt : IntKind.i64.wrap (t : Int) = (t : Int) := IntWalk.i64_in _ (by omega)
      have hwp : IntKind.i64.wrap ((pf : Int) + (pn : Int)) = (pf : Int) + (pn : Int) := IntWalk.i64_in _ (by omega)
      have hi0 : (0 : Int) ≤ (k : Int) := by omega
      have hi1 : (k : Int) < (n : Int) := by omega
      clear c0 c1 r0 S1 SPOT hbel SP RR
      go_upto_region 11 with fail
      go_cut [122] from 49 to 129 (fun s wx => s = .bool false ∧ ∃ nq, wx = W3.drewN nq)
      case first =>
        by_cases hk0 : k = 0
        · subst hk0
          go_quiet (fail)
          go_wp2_with fail
          go_meet
          exact ⟨rfl, _, rfl⟩
        · have e5 : decide (0 < k) = true := by simp; omega
          have e5' : decide (0 < (k : Int)) = true := by simp; omega
          have hkp : 0 < k := by omega
          obtain rfl : pf = 0 := q7 hkp
          obtain rfl : st = t := by omega
          have z1' : W3.cell? ⟨g, k * 3 + 1, none⟩ = some (.int .i64 0) := z1
          have e4' : decide ((ln : Int) < (pn : Int)) = false := by simp; omega
          have e4'' : decide (ln < pn) = false := by simp; omega
          have hle : pn ≤ ln := by omega
          have hwp' : IntKind.i64.wrap (pn : Int) = (pn : Int) := IntWalk.i64_in _ (by omega)
          clear hk0 z1 e1 e3 e4 hwp
          go_quiet (fail)
          go_wp2_with fail
          go_meet
          exact ⟨rfl, _, rfl⟩
      case rest =>
      obtain ⟨rfl, nq, rfl⟩ := hcut
      go_wp2_with fail
      go_roundw
      case rel => exact ⟨k + 1, by omega, by go_num, by rw [SUMS.out]; simp, Lib.hid (below_drewN SB.out _)⟩
      case measure => simp [intOf]; omega
    · have hkn : k = n := by omega
      subst hkn
      have hsum : a + (((Em.split c a m).take k).map Em.Pc.n).sum = a + m := by
        rw [HN.out, List.take_length]; exact SUM.out
      rw [hsum, show ((a + m : Nat) : Int) = (a : Int) + (m : Int) by simp]
      have hBW := HB.out.trans (hbel.out.mono HB.out.size)
      have hb0 : w.heap.size < wr.heap.size := Nat.lt_of_lt_of_le hs0 hbel.out.size
      have hb1 : w.heap.size + 1 < wr.heap.size := Nat.lt_of_lt_of_le hs1 hbel.out.size
      have HBW := Lib.hid hBW
      have hkk : decide ((k : Int) < (k : Int)) = false := by simp
      clear hBW hsum g0 g1 x0 x1 hs0 hs1 HB hbel HP HCS PT SUM SP hd hlt HN
      go_wp2_with fail
      refine (E.out _).mono ?_
      rintro e w2 ⟨rfl, hb⟩
      replace y0 := (hb.cell (p := ⟨w.heap.size + 1, 0, none⟩) hb1).trans y0
      replace y1 := (hb.cell (p := ⟨w.heap.size + 1, 1, none⟩) hb1).trans y1
      replace hb1 := Nat.lt_of_lt_of_le hb1 hb.size
      replace HBW := Lib.hid (HBW.out.trans (hb.mono HBW.out.size))
      clear hb c0 c1 hb0 E
      go_wp2_with fail
      refine (AL.out _).mono ?_
      rintro e w3 ⟨rfl, hb⟩
      replace y0 := (hb.cell (p := ⟨w.heap.size + 1, 0, none⟩) hb1).trans y0
      replace y1 := (hb.cell (p := ⟨w.heap.size + 1, 1, none⟩) hb1).trans y1
      replace HBW := Lib.hid (HBW.out.trans (hb.mono HBW.out.size))
      clear hb AL
      go_wp2_with fail
      go_ret
      exact ⟨rfl, HBW.out⟩
end Geo
end Go.Proofs.Ytkjlcjiegoillaa
