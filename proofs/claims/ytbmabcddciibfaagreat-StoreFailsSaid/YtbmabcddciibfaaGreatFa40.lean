/- Part 40 of the contracts and of the plain mathematics that the proof of the law rests on: StoreFails, StoOpn. -/
import Derived.Test.YtbmabcddciibfaaGreatFa21
import Derived.Test.YtbmabcddciibfaaGreatFa38
import Derived.Test.YtbmabcddciibfaaGreatFa39
import Derived.Lib.SmallJoins
namespace Go.Proofs.YtbmabcddciibfaaGreat
namespace So
open Go.RowKit
set_option linter.unusedVariables false
set_option maxRecDepth 100000
set_option maxHeartbeats 8000000 in
theorem sfails_no {w : World} (a n g s m : Int) (gen : Nat) {la : Option Addr} {xs : List (Ac × Al)} (N lc : Nat) (hN : N = xs.length) (hN2 : N ≤ 9223372036854775807) (h : Acts w la xs) (x : Ac) (l : Al) (hin : AcIn w x l) (f : Nat) (hf : f < 256) (hbg : ∀ W, Calls Tryz.prog 7 #[.agg #[.int .i64 a, .int .i64 n, .int .i64 g, .int .i64 s, .int .i64 m, .int .u32 (gen : Int), .slice la N lc]] W (BegNo W)) :
    Calls Tryz.prog 3 #[.agg #[.int .i64 a, .int .i64 n, .int .i64 g, .int .i64 s, .int .i64 m, .int .u32 (gen : Int), .slice la N lc], .agg #[.int .u8 (x.k : Int), .int .i64 x.o, .int .i64 x.f, .int .i64 x.n, .string (Om.B x.d), .slice l.ca x.cs.length l.cc, .slice l.ra x.rm.length l.rc, .slice l.ka x.kp.length l.kc], .int .u8 (f : Int)] w fun e w' => e = .returned (.bool true) ∧ Below w.heap.size w w' := by
  obtain ⟨W0, hW0⟩ : ∃ W0, (w.alloc (.cells #[.int .i64 a, .int .i64 n, .int .i64 g, .int .i64 s, .int .i64 m, .int .u32 (gen : Int), .slice la N lc] 29)).alloc (.cells #[.int .u8 (x.k : Int), .int .i64 x.o, .int .i64 x.f, .int .i64 x.n, .string (Om.B x.d), .slice l.ca x.cs.length l.cc, .slice l.ra x.rm.length l.rc, .slice l.ka x.kp.length l.kc] 34) = W0 := ⟨_, rfl⟩
  obtain ⟨hB, hc, ha, hsz⟩ := act_boxes w _ _ W0 hW0
  have HB := Lib.hid hB
  have AL := Lib.hid (fun w1 => salive_any w1)
  have KC : Hid (∀ W, Below W0.heap.size W0 W → W.cell? ⟨w.heap.size, 0, none⟩ = some (.int .i64 a) ∧ W.cell? ⟨w.heap.size, 1, none⟩ = some (.int .i64 n) ∧ W.cell? ⟨w.heap.size, 2, none⟩ = some (.int .i64 g) ∧ W.cell? ⟨w.heap.size, 3, none⟩ = some (.int .i64 s) ∧ W.cell? ⟨w.heap.size, 4, none⟩ = some (.int .i64 m) ∧ W.cell? ⟨w.heap.size, 5, none⟩ = some (.int .u32 (gen : Int)) ∧ W.cell? ⟨w.heap.size, 6, none⟩ = some (.slice la N lc)) := Lib.hid fun W hW => by
    have r := (hW.block w.heap.size (by omega)).trans hc
    refine ⟨?_, ?_, ?_, ?_, ?_, ?_, ?_⟩ <;> (rw [cell_of_row _ _ _ _ _ _ r]; rfl)
  have KL : Hid (∀ W, Below W0.heap.size W0 W → W.cell? ⟨w.heap.size + 1, 0, none⟩ = some (.int .u8 (x.k : Int)) ∧ W.cell? ⟨w.heap.size + 1, 1, none⟩ = some (.int .i64 x.o) ∧ W.cell? ⟨w.heap.size + 1, 2, none⟩ = some (.int .i64 x.f) ∧ W.cell? ⟨w.heap.size + 1, 3, none⟩ = some (.int .i64 x.n) ∧ W.cell? ⟨w.heap.size + 1, 4, none⟩ = some (.string (Om.B x.d)) ∧ W.cell? ⟨w.heap.size + 1, 5, none⟩ = some (.slice l.ca x.cs.length l.cc) ∧ W.cell? ⟨w.heap.size + 1, 6, none⟩ = some (.slice l.ra x.rm.length l.rc) ∧ W.cell? ⟨w.heap.size + 1, 7, none⟩ = some (.slice l.ka x.kp.length l.kc)) := Lib.hid fun W hW => by
    have r := (hW.block (w.heap.size + 1) (by omega)).trans ha
    refine ⟨?_, ?_, ?_, ?_, ?_, ?_, ?_, ?_⟩ <;> (rw [cell_of_row _ _ _ _ _ _ r]; rfl)
  have BG := Lib.hid hbg
  have AW : Acts W0 la xs := fun hn => by
    obtain ⟨b, off, e, hlt, hall⟩ := h hn
    refine ⟨b, off, e, Nat.lt_of_lt_of_le hlt hB.size, fun i z hz => ?_⟩
    obtain ⟨h1, h2⟩ := hall i z hz
    exact ⟨fun j v hv => (hB.cell (p := ⟨b, off + i * 8 + j, none⟩) hlt).trans (h1 j v hv), h2.up hB⟩
  have FT := Lib.hid (sfits_any a n g s m gen N lc hN hN2 AW)
  unfold FitEnd at FT
  unfold BegNo at BG
  have hsd : (Om.B x.d).size = x.d.length := Om.B_size x.d
  obtain ⟨n4, hn4⟩ : ∃ q, q = x.d.length := ⟨_, rfl⟩
  obtain ⟨n5, hn5⟩ : ∃ q, q = x.cs.length := ⟨_, rfl⟩
  obtain ⟨n6, hn6⟩ : ∃ q, q = x.rm.length := ⟨_, rfl⟩
  obtain ⟨n7, hn7⟩ : ∃ q, q = x.kp.length := ⟨_, rfl⟩
  rw [← hn4] at hsd
  rw [← hn5, ← hn6, ← hn7] at KL hW0 ⊢
  obtain ⟨c0, c1, c2, c3, c4, c5, c6⟩ := KC.out W0 (Below.refl _ _)
  obtain ⟨d0, d1, d2, d3, d4, d5, d6, d7⟩ := KL.out W0 (Below.refl _ _)
  have LE : Hid (n4 = x.d.length ∧ n5 = x.cs.length ∧ n6 = x.rm.length ∧ n7 = x.kp.length) := Lib.hid ⟨hn4, hn5, hn6, hn7⟩
  have HFZ : Hid (f < 256) := hf
  clear hB hc ha hsz h hin hN hbg AW hn4 hn5 hn6 hn7
  go_enter Tryz.func3, Tryz.ntmps3
  go_wp2_with fail
  clear hW0
  refine FT.out.mono ?_
  rintro e w1 ⟨res, rfl, hb, hres⟩
  have B1 : Hid (Below W0.heap.size W0 w1) := hb
  have RES := Lib.hid hres
  clear hb hres c0 c1 c2 c3 c4 c5 c6 d0 d1 d2 d3 d4 d5 d6 d7 FT
  obtain ⟨c0, c1, c2, c3, c4, c5, c6⟩ := KC.out _ B1.out
  obtain ⟨d0, d1, d2, d3, d4, d5, d6, d7⟩ := KL.out _ B1.out
  cases res with
  | false =>
    go_wp2_with fail
    refine (AL.out _).mono ?_
    rintro e w2 ⟨rfl, hb⟩
    have FB := Lib.hid (keepd (keepd hb B1.out) HB.out)
    clear hb
    go_wp2_with fail
    go_ret
    exact ⟨rfl, FB.out⟩
  | true =>
    rcases Nat.lt_or_ge 1200 n4 with q4 | q4
    · have t1 : decide ((1200 : Int) < (n4 : Int)) = true := by simp; omega
      have t2 : decide (1200 < n4) = true := by simp; omega
      go_wp2_with fail
      refine (AL.out _).mono ?_
      rintro e w2 ⟨rfl, hb⟩
      have FB := Lib.hid (keepd (keepd hb B1.out) HB.out)
      clear hb
      go_wp2_with fail
      go_ret
      exact ⟨rfl, FB.out⟩
    have t4a : decide ((1200 : Int) < (n4 : Int)) = false := by simp; omega
    have t4b : decide (1200 < n4) = false := by simp; omega
    rcases Nat.lt_or_ge 30 n5 with q5 | q5
    · have t1 : decide ((30 : Int) < (n5 : Int)) = true := by simp; omega
      have t2 : decide (30 < n5) = true := by simp; omega
      go_wp2_with fail
      refine (AL.out _).mono ?_
      rintro e w2 ⟨rfl, hb⟩
      have FB := Lib.hid (keepd (keepd hb B1.out) HB.out)
      clear hb
      go_wp2_with fail
      go_ret
      exact ⟨rfl, FB.out⟩
    have t5a : decide ((30 : Int) < (n5 : Int)) = false := by simp; omega
    have t5b : decide (30 < n5) = false := by simp; omega
    rcases Nat.lt_or_ge 30 n6 with q6 | q6
    · have t1 : decide ((30 : Int) < (n6 : Int)) = true := by simp; omega
      have t2 : decide (30 < n6) = true := by simp; omega
      go_wp2_with fail
      refine (AL.out _).mono ?_
      rintro e w2 ⟨rfl, hb⟩
      have FB := Lib.hid (keepd (keepd hb B1.out) HB.out)
      clear hb
      go_wp2_with fail
      go_ret
      exact ⟨rfl, FB.out⟩
    have t6a : decide ((30 : Int) < (n6 : Int)) = false := by simp; omega
    have t6b : decide (30 < n6) = false := by simp; omega
    rcases Nat.lt_or_ge 1000 n7 with q7 | q7
    · have t1 : decide ((1000 : Int) < (n7 : Int)) = true := by simp; omega
      have t2 : decide (1000 < n7) = true := by simp; omega
      go_wp2_with fail
      refine (AL.out _).mono ?_
      rintro e w2 ⟨rfl, hb⟩
      have FB := Lib.hid (keepd (keepd hb B1.out) HB.out)
      clear hb
      go_wp2_with fail
      go_ret
      exact ⟨rfl, FB.out⟩
    have t7a : decide ((1000 : Int) < (n7 : Int)) = false := by simp; omega
    have t7b : decide (1000 < n7) = false := by simp; omega
    have FX : Hid (FitA x ∧ x.kp.length ≤ 1000) := Lib.hid (by obtain ⟨e4, e5, e6, e7⟩ := LE.out; exact ⟨⟨by omega, by omega, by omega⟩, by omega⟩)
    go_wp2_with fail
    refine (BG.out _).mono ?_
    rintro e w2 ⟨rfl, hb⟩
    have B2 := Lib.hid (keepd hb B1.out)
    clear hb
    go_wp2_with fail
    refine (AL.out _).mono ?_
    rintro e w3 ⟨rfl, hb⟩
    have FB := Lib.hid (keepd (keepd hb B2.out) HB.out)
    clear hb
    go_wp2_with fail
    go_ret
    exact ⟨rfl, FB.out⟩
set_option maxHeartbeats 8000000 in
theorem sfails_yes {w : World} (p : Pa) (hp : p.Ok) {la : Option Addr} {xs : List (Ac × Al)} (N lc : Nat) (hN : N = xs.length) (hN2 : N ≤ 9223372036854775807) (h : Acts w la xs) (x : Ac) (l : Al) (hin : AcIn w x l) (f : Nat) (hf : f < 256) :
    Calls Tryz.prog 3 #[.agg #[.int .i64 (p.a : Int), .int .i64 (p.n : Int), .int .i64 (p.g : Int), .int .i64 (p.st : Int), .int .i64 (p.ln : Int), .int .u32 (p.gen : Int), .slice la N lc], .agg #[.int .u8 (x.k : Int), .int .i64 x.o, .int .i64 x.f, .int .i64 x.n, .string (Om.B x.d), .slice l.ca x.cs.length l.cc, .slice l.ra x.rm.length l.rc, .slice l.ka x.kp.length l.kc], .int .u8 (f : Int)] w fun e w' => e = .returned (.bool true) ∧ Below w.heap.size w w' := by
  obtain ⟨W0, hW0⟩ : ∃ W0, (w.alloc (.cells #[.int .i64 (p.a : Int), .int .i64 (p.n : Int), .int .i64 (p.g : Int), .int .i64 (p.st : Int), .int .i64 (p.ln : Int), .int .u32 (p.gen : Int), .slice la N lc] 29)).alloc (.cells #[.int .u8 (x.k : Int), .int .i64 x.o, .int .i64 x.f, .int .i64 x.n, .string (Om.B x.d), .slice l.ca x.cs.length l.cc, .slice l.ra x.rm.length l.rc, .slice l.ka x.kp.length l.kc] 34) = W0 := ⟨_, rfl⟩
  obtain ⟨hB, hc, ha, hsz⟩ := act_boxes w _ _ W0 hW0
  have HB := Lib.hid hB
  have AL := Lib.hid (fun w1 => salive_any w1)
  have KC : Hid (∀ W, Below W0.heap.size W0 W → W.cell? ⟨w.heap.size, 0, none⟩ = some (.int .i64 (p.a : Int)) ∧ W.cell? ⟨w.heap.size, 1, none⟩ = some (.int .i64 (p.n : Int)) ∧ W.cell? ⟨w.heap.size, 2, none⟩ = some (.int .i64 (p.g : Int)) ∧ W.cell? ⟨w.heap.size, 3, none⟩ = some (.int .i64 (p.st : Int)) ∧ W.cell? ⟨w.heap.size, 4, none⟩ = some (.int .i64 (p.ln : Int)) ∧ W.cell? ⟨w.heap.size, 5, none⟩ = some (.int .u32 (p.gen : Int)) ∧ W.cell? ⟨w.heap.size, 6, none⟩ = some (.slice la N lc)) := Lib.hid fun W hW => by
    have r := (hW.block w.heap.size (by omega)).trans hc
    refine ⟨?_, ?_, ?_, ?_, ?_, ?_, ?_⟩ <;> (rw [cell_of_row _ _ _ _ _ _ r]; rfl)
  have KL : Hid (∀ W, Below W0.heap.size W0 W → W.cell? ⟨w.heap.size + 1, 0, none⟩ = some (.int .u8 (x.k : Int)) ∧ W.cell? ⟨w.heap.size + 1, 1, none⟩ = some (.int .i64 x.o) ∧ W.cell? ⟨w.heap.size + 1, 2, none⟩ = some (.int .i64 x.f) ∧ W.cell? ⟨w.heap.size + 1, 3, none⟩ = some (.int .i64 x.n) ∧ W.cell? ⟨w.heap.size + 1, 4, none⟩ = some (.string (Om.B x.d)) ∧ W.cell? ⟨w.heap.size + 1, 5, none⟩ = some (.slice l.ca x.cs.length l.cc) ∧ W.cell? ⟨w.heap.size + 1, 6, none⟩ = some (.slice l.ra x.rm.length l.rc) ∧ W.cell? ⟨w.heap.size + 1, 7, none⟩ = some (.slice l.ka x.kp.length l.kc)) := Lib.hid fun W hW => by
    have r := (hW.block (w.heap.size + 1) (by omega)).trans ha
    refine ⟨?_, ?_, ?_, ?_, ?_, ?_, ?_, ?_⟩ <;> (rw [cell_of_row _ _ _ _ _ _ r]; rfl)
  have BG : Hid (∀ W, Calls Tryz.prog 7 #[.agg #[.int .i64 (p.a : Int), .int .i64 (p.n : Int), .int .i64 (p.g : Int), .int .i64 (p.st : Int), .int .i64 (p.ln : Int), .int .u32 (p.gen : Int), .slice la N lc]] W (BegYes p W)) := Lib.hid fun W => sbegun_yes p hp (.slice la N lc) W
  have AW : Acts W0 la xs := fun hn => by
    obtain ⟨b, off, e, hlt, hall⟩ := h hn
    refine ⟨b, off, e, Nat.lt_of_lt_of_le hlt hB.size, fun i z hz => ?_⟩
    obtain ⟨h1, h2⟩ := hall i z hz
    exact ⟨fun j v hv => (hB.cell (p := ⟨b, off + i * 8 + j, none⟩) hlt).trans (h1 j v hv), h2.up hB⟩
  have FT := Lib.hid (sfits_any (p.a : Int) (p.n : Int) (p.g : Int) (p.st : Int) (p.ln : Int) p.gen N lc hN hN2 AW)
  unfold FitEnd at FT
  have AT : Hid (∀ k z, xs[k]? = some z → ∃ b off, la = some ⟨b, off, none⟩ ∧ AcIn w z.1 z.2 ∧ ∀ W, Below W0.heap.size W0 W → W.cell? ⟨b, off + k * 8, none⟩ = some (.int .u8 (z.1.k : Int)) ∧ W.cell? ⟨b, off + k * 8 + 1, none⟩ = some (.int .i64 z.1.o) ∧ W.cell? ⟨b, off + k * 8 + 2, none⟩ = some (.int .i64 z.1.f) ∧ W.cell? ⟨b, off + k * 8 + 3, none⟩ = some (.int .i64 z.1.n) ∧ W.cell? ⟨b, off + k * 8 + 4, none⟩ = some (.string (Om.B z.1.d)) ∧ W.cell? ⟨b, off + k * 8 + 5, none⟩ = some (.slice z.2.ca z.1.cs.length z.2.cc) ∧ W.cell? ⟨b, off + k * 8 + 6, none⟩ = some (.slice z.2.ra z.1.rm.length z.2.rc) ∧ W.cell? ⟨b, off + k * 8 + 7, none⟩ = some (.slice z.2.ka z.1.kp.length z.2.kc)) := Lib.hid fun k z hz => by
    obtain ⟨b, off, e, hlt, hall⟩ := h (fun e => by rw [e] at hz; simp at hz)
    obtain ⟨h1, h2⟩ := hall k z hz
    have up : ∀ W, Below W0.heap.size W0 W → ∀ j v, (z.1.vals z.2)[j]? = some v → W.cell? ⟨b, off + k * 8 + j, none⟩ = some v := fun W hW j v hv => ((hB.trans (hW.mono hB.size)).cell (p := ⟨b, off + k * 8 + j, none⟩) hlt).trans (h1 j v hv)
    refine ⟨b, off, e, h2, fun W hW => ⟨up W hW 0 _ rfl, up W hW 1 _ rfl, up W hW 2 _ rfl, up W hW 3 _ rfl, up W hW 4 _ rfl, up W hW 5 _ rfl, up W hW 6 _ rfl, up W hW 7 _ rfl⟩⟩
  have HP := Lib.hid hp
  have HIN := Lib.hid hin
  have HN := Lib.hid hN
  have hsd : (Om.B x.d).size = x.d.length := Om.B_size x.d
  obtain ⟨n4, hn4⟩ : ∃ q, q = x.d.length := ⟨_, rfl⟩
  obtain ⟨n5, hn5⟩ : ∃ q, q = x.cs.length := ⟨_, rfl⟩
  obtain ⟨n6, hn6⟩ : ∃ q, q = x.rm.length := ⟨_, rfl⟩
  obtain ⟨n7, hn7⟩ : ∃ q, q = x.kp.length := ⟨_, rfl⟩
  rw [← hn4] at hsd
  rw [← hn5, ← hn6, ← hn7] at KL hW0 ⊢
  obtain ⟨c0, c1, c2, c3, c4, c5, c6⟩ := KC.out W0 (Below.refl _ _)
  obtain ⟨d0, d1, d2, d3, d4, d5, d6, d7⟩ := KL.out W0 (Below.refl _ _)
  have LE : Hid (n4 = x.d.length ∧ n5 = x.cs.length ∧ n6 = x.rm.length ∧ n7 = x.kp.length) := Lib.hid ⟨hn4, hn5, hn6, hn7⟩
  have HFZ : Hid (f < 256) := hf
  clear hB hc ha hsz h hin hN hp AW hn4 hn5 hn6 hn7
  go_enter Tryz.func3, Tryz.ntmps3
  go_wp2_with fail
  clear hW0
  refine FT.out.mono ?_
  rintro e w1 ⟨res, rfl, hb, hres⟩
  have B1 : Hid (Below W0.heap.size W0 w1) := hb
  have RES := Lib.hid hres
  clear hb hres c0 c1 c2 c3 c4 c5 c6 d0 d1 d2 d3 d4 d5 d6 d7 FT
  obtain ⟨c0, c1, c2, c3, c4, c5, c6⟩ := KC.out _ B1.out
  obtain ⟨d0, d1, d2, d3, d4, d5, d6, d7⟩ := KL.out _ B1.out
  cases res with
  | false =>
    go_wp2_with fail
    refine (AL.out _).mono ?_
    rintro e w2 ⟨rfl, hb⟩
    have FB := Lib.hid (keepd (keepd hb B1.out) HB.out)
    clear hb
    go_wp2_with fail
    go_ret
    exact ⟨rfl, FB.out⟩
  | true =>
    rcases Nat.lt_or_ge 1200 n4 with q4 | q4
    · have t1 : decide ((1200 : Int) < (n4 : Int)) = true := by simp; omega
      have t2 : decide (1200 < n4) = true := by simp; omega
      go_wp2_with fail
      refine (AL.out _).mono ?_
      rintro e w2 ⟨rfl, hb⟩
      have FB := Lib.hid (keepd (keepd hb B1.out) HB.out)
      clear hb
      go_wp2_with fail
      go_ret
      exact ⟨rfl, FB.out⟩
    have t4a : decide ((1200 : Int) < (n4 : Int)) = false := by simp; omega
    have t4b : decide (1200 < n4) = false := by simp; omega
    rcases Nat.lt_or_ge 30 n5 with q5 | q5
    · have t1 : decide ((30 : Int) < (n5 : Int)) = true := by simp; omega
      have t2 : decide (30 < n5) = true := by simp; omega
      go_wp2_with fail
      refine (AL.out _).mono ?_
      rintro e w2 ⟨rfl, hb⟩
      have FB := Lib.hid (keepd (keepd hb B1.out) HB.out)
      clear hb
      go_wp2_with fail
      go_ret
      exact ⟨rfl, FB.out⟩
    have t5a : decide ((30 : Int) < (n5 : Int)) = false := by simp; omega
    have t5b : decide (30 < n5) = false := by simp; omega
    rcases Nat.lt_or_ge 30 n6 with q6 | q6
    · have t1 : decide ((30 : Int) < (n6 : Int)) = true := by simp; omega
      have t2 : decide (30 < n6) = true := by simp; omega
      go_wp2_with fail
      refine (AL.out _).mono ?_
      rintro e w2 ⟨rfl, hb⟩
      have FB := Lib.hid (keepd (keepd hb B1.out) HB.out)
      clear hb
      go_wp2_with fail
      go_ret
      exact ⟨rfl, FB.out⟩
    have t6a : decide ((30 : Int) < (n6 : Int)) = false := by simp; omega
    have t6b : decide (30 < n6) = false := by simp; omega
    rcases Nat.lt_or_ge 1000 n7 with q7 | q7
    · have t1 : decide ((1000 : Int) < (n7 : Int)) = true := by simp; omega
      have t2 : decide (1000 < n7) = true := by simp; omega
      go_wp2_with fail
      refine (AL.out _).mono ?_
      rintro e w2 ⟨rfl, hb⟩
      have FB := Lib.hid (keepd (keepd hb B1.out) HB.out)
      clear hb
      go_wp2_with fail
      go_ret
      exact ⟨rfl, FB.out⟩
    have t7a : decide ((1000 : Int) < (n7 : Int)) = false := by simp; omega
    have t7b : decide (1000 < n7) = false := by simp; omega
    have FX : Hid (FitA x ∧ x.kp.length ≤ 1000) := Lib.hid (by obtain ⟨e4, e5, e6, e7⟩ := LE.out; exact ⟨⟨by omega, by omega, by omega⟩, by omega⟩)
    have hres := RES.out rfl
    have FXS : Hid ((∀ z ∈ xs, FitA z.1) ∧ N ≤ 24) := Lib.hid ⟨hres.1, by have := HN.out; have := hres.2.1; omega⟩
    clear hres RES q4 q5 q6 q7
    go_wp2_with fail
    refine (BG.out _).mono ?_
    intro e w2 hbeg
    obtain ⟨X, dp, rq, rfl, hs⟩ := FA.begin hbeg
    have S2 : Hid (FA w1 p X dp rq 0 w2) := hs
    clear c0 c1 c2 c3 c4 c5 c6 d0 d1 d2 d3 d4 d5 d6 d7 t4a t4b t5a t5b t6a t6b t7a t7b hs hbeg BG
    go_wp2_with fail
    go_loopw [11] (fun i wr => ∃ k : Nat, i = .int .i64 (k : Int) ∧ k ≤ N ∧ Hid (FA w1 p X dp rq k wr)) (fun i _ => N - (Lib.intOf i).toNat)
    case atStart => exact ⟨0, rfl, Nat.zero_le _, S2⟩
    case round =>
      obtain ⟨k, rfl, hk, hat⟩ := hrel
      have BW : Hid (Below W0.heap.size W0 wr) := Lib.hid (keepd hat.out.bel B1.out)
      by_cases hlt : k < N
      · have d1 : decide ((k : Int) < (N : Int)) = true := by simp; omega
        have d2 : decide (k < N) = true := by simp; omega
        have i1 : (0 : Int) ≤ (k : Int) := by omega
        have i2 : (k : Int) < (N : Int) := by omega
        have hw1 : IntKind.i64.wrap ((k : Int) + 1) = ((k + 1 : Nat) : Int) := by rw [IntWalk.i64_in _ (by omega)]; rfl
        obtain ⟨z, hz⟩ : ∃ z, xs[k]? = some z := ⟨xs[k]'(by have := HN.out; omega), List.getElem?_eq_getElem _⟩
        obtain ⟨b, off, hla, hzin, hcl⟩ := AT.out k z hz
        have AC : Hid (∀ W, Below wr.heap.size wr W → Calls Tryz.prog 8 #[.pointer (some ⟨X, 0, none⟩), .agg #[.int .i64 (p.a : Int), .int .i64 (p.n : Int), .int .i64 (p.g : Int), .int .i64 (p.st : Int), .int .i64 (p.ln : Int), .int .u32 (p.gen : Int), .slice la N lc], .agg #[.int .u8 (z.1.k : Int), .int .i64 z.1.o, .int .i64 z.1.f, .int .i64 z.1.n, .string (Om.B z.1.d), .slice z.2.ca z.1.cs.length z.2.cc, .slice z.2.ra z.1.rm.length z.2.rc, .slice z.2.ka z.1.kp.length z.2.kc]] W fun e w' => e = .returned (.bool true) ∧ FA w1 p X dp rq (k + 1) w') := Lib.hid fun W hW => (hat.out.next hW).act HP.out (keepd B1.out HB.out) (by have := FXS.out.2; omega) hzin (FXS.out.1 z (List.mem_of_getElem? hz)) (.slice la N lc)
        subst hla
        have CL := Lib.hid hcl
        clear hz hzin hcl
        obtain ⟨c0, c1, c2, c3, c4, c5, c6⟩ := KC.out _ BW.out
        obtain ⟨e0, e1, e2, e3, e4, e5, e6, e7⟩ := CL.out _ BW.out
        go_upto_region 10 with fail
        go_region_held3 (fun w' => w'.cell? ⟨w.heap.size, 0, none⟩ = some (.int .i64 (p.a : Int)) ∧ w'.cell? ⟨w.heap.size, 1, none⟩ = some (.int .i64 (p.n : Int)) ∧ w'.cell? ⟨w.heap.size, 2, none⟩ = some (.int .i64 (p.g : Int)) ∧ w'.cell? ⟨w.heap.size, 3, none⟩ = some (.int .i64 (p.st : Int)) ∧ w'.cell? ⟨w.heap.size, 4, none⟩ = some (.int .i64 (p.ln : Int)) ∧ w'.cell? ⟨w.heap.size, 5, none⟩ = some (.int .u32 (p.gen : Int)) ∧ w'.cell? ⟨w.heap.size, 6, none⟩ = some (.slice (some ⟨b, off, none⟩) N lc) ∧ w'.cell? ⟨b, off + k * 8, none⟩ = some (.int .u8 (z.1.k : Int)) ∧ w'.cell? ⟨b, off + k * 8 + 1, none⟩ = some (.int .i64 z.1.o) ∧ w'.cell? ⟨b, off + k * 8 + 2, none⟩ = some (.int .i64 z.1.f) ∧ w'.cell? ⟨b, off + k * 8 + 3, none⟩ = some (.int .i64 z.1.n) ∧ w'.cell? ⟨b, off + k * 8 + 4, none⟩ = some (.string (Om.B z.1.d)) ∧ w'.cell? ⟨b, off + k * 8 + 5, none⟩ = some (.slice z.2.ca z.1.cs.length z.2.cc) ∧ w'.cell? ⟨b, off + k * 8 + 6, none⟩ = some (.slice z.2.ra z.1.rm.length z.2.rc) ∧ w'.cell? ⟨b, off + k * 8 + 7, none⟩ = some (.slice z.2.ka z.1.kp.length z.2.kc))
          (first | (refine ⟨?_, ?_, ?_, ?_, ?_, ?_, ?_, ?_, ?_, ?_, ?_, ?_, ?_, ?_, ?_⟩ <;> assumption) | go_keep)
          (first
            | (go_at_call 8; refine (AC.out _ (Below.refl _ _).drew).mono ?_; rintro e w3 ⟨rfl, hs⟩; have S3 := Lib.hid hs; have B3 := Lib.hid (keepd hs.bel B1.out); obtain ⟨u0, u1, u2, u3, u4, u5, u6⟩ := KC.out _ B3.out; obtain ⟨v0, v1, v2, v3, v4, v5, v6, v7⟩ := CL.out _ B3.out; clear hs))
        clear c0 c1 c2 c3 c4 c5 c6 e0 e1 e2 e3 e4 e5 e6 e7 u0 u1 u2 u3 u4 u5 u6 v0 v1 v2 v3 v4 v5 v6 v7 AC CL
        go_wp2_with fail
        go_roundw
        case rel => exact ⟨k + 1, rfl, by omega, S3⟩
        case measure => simp [Lib.intOf]; omega
      · obtain rfl : k = N := by omega
        have d1 : decide ((k : Int) < (k : Int)) = false := by simp
        have d2 : decide (k < k) = false := by simp
        have S4 := Lib.hid hat.out
        have K24 : Hid (k ≤ 24) := Lib.hid FXS.out.2
        obtain ⟨c0, c1, c2, c3, c4, c5, c6⟩ := KC.out _ BW.out
        obtain ⟨x0, x5⟩ := hat.out.cells
        have FL := Lib.hid (hat.out.flush (by have := K24.out; omega))
        clear hat FXS AT
        go_wp2_with fail
        refine FL.out.mono ?_
        rintro e w5 ⟨ux, rfl, hs⟩
        have S5 := Lib.hid hs
        have CO := Lib.hid (hs.copied HP.out)
        obtain ⟨y0, y5⟩ := hs.cells
        clear hs FL x0 x5 c0 c1 c2 c3 c4 c5 c6 S4
        go_wp2_with fail
        refine CO.out.mono ?_
        rintro e w6 ⟨cq, rfl, hs⟩
        have S6 := Lib.hid hs
        have hmod : (f : Int) % 40 = ((f % 40 : Nat) : Int) := by omega
        have FA6 := Lib.hid (hs.fail (f % 40) (Nat.mod_lt _ (by decide)))
        rw [← hmod] at FA6
        have y0 := hs.cells
        have fz := HFZ.out
        clear hs CO y5 S5 hmod
        go_wp2_with fail
        refine FA6.out.mono ?_
        rintro e w7 ⟨rfl, hs⟩
        have B7 := Lib.hid (keepd hs.bel B1.out)
        have S7 := Lib.hid hs
        have AC : Hid (Calls Tryz.prog 8 #[.pointer (some ⟨X, 0, none⟩), .agg #[.int .i64 (p.a : Int), .int .i64 (p.n : Int), .int .i64 (p.g : Int), .int .i64 (p.st : Int), .int .i64 (p.ln : Int), .int .u32 (p.gen : Int), .slice la k lc], .agg #[.int .u8 (x.k : Int), .int .i64 x.o, .int .i64 x.f, .int .i64 x.n, .string (Om.B x.d), .slice l.ca n5 l.cc, .slice l.ra n6 l.rc, .slice l.ka n7 l.kc]] w7 fun e w' => ∃ res, e = .returned (.bool res) ∧ FE w1 p X dp rq cq x w') := Lib.hid (by
          obtain ⟨e4, e5, e6, e7⟩ := LE.out
          have := hs.act HP.out (keepd B1.out HB.out) HIN.out FX.out.1 (.slice la k lc)
          unfold caseV Ac.vals at this
          rw [e5, e6, e7]
          exact this)
        obtain ⟨c0, c1, c2, c3, c4, c5, c6⟩ := KC.out _ B7.out
        obtain ⟨d0, d1, d2, d3, d4, d5, d6, d7⟩ := KL.out _ B7.out
        clear hs FA6 y0 S6 fz
        go_wp2_with fail
        refine AC.out.mono ?_
        rintro e w8 ⟨res2, rfl, hs⟩
        have B8 := Lib.hid (keepd hs.bel B1.out)
        have S8 := Lib.hid hs
        have RST : Hid (∀ W, Below w8.heap.size w8 W → Calls Tryz.prog 12 #[.pointer (some ⟨dp, 0, none⟩), .slice l.ka n7 l.kc] W fun e w' => e = .returned (.tuple #[]) ∧ FF w1 p X dp rq cq x w') := Lib.hid fun W hW => by
          obtain ⟨e4, e5, e6, e7⟩ := LE.out
          have := (S8.out.next hW).restart (keepd B1.out HB.out) HIN.out FX.out.2
          rw [e7]
          exact this
        have x0 := hs.cells
        clear c0 c1 c2 c3 c4 c5 c6 d0 d1 d2 d3 d4 d5 d6 d7
        obtain ⟨d0, d1, d2, d3, d4, d5, d6, d7⟩ := KL.out _ B8.out
        clear hs AC S7
        go_upto_region 17 with fail
        go_region_held3 (fun w' => w'.cell? ⟨X, 0, none⟩ = some (.pointer (some ⟨dp, 0, none⟩)) ∧ w'.cell? ⟨w.heap.size + 1, 7, none⟩ = some (.slice l.ka n7 l.kc))
          (first | (refine ⟨?_, ?_⟩ <;> assumption) | go_keep)
          (first
            | (go_at_call 12; refine (RST.out _ (Below.refl _ _).drew).mono ?_; rintro e w9 ⟨rfl, hs⟩; have S9 := Lib.hid hs; have B9 := Lib.hid (keepd hs.bel B1.out); obtain ⟨y0, y1, y2, y3⟩ := hs.cells; obtain ⟨v0, v1, v2, v3, v4, v5, v6, v7⟩ := KL.out _ B9.out; clear hs))
        clear x0 d0 d1 d2 d3 d4 d5 d6 d7 v0 v1 v2 v3 v4 v5 v6 v7 RST S8
        have OPN : Hid (∀ W, Below w9.heap.size w9 W → Calls Tryz.prog 13 #[.pointer (some ⟨dp, 0, none⟩), .agg #[.int .i64 (p.a : Int), .int .i64 (p.n : Int), .int .i64 (p.g : Int)], .agg #[.int .i64 (p.st : Int), .int .i64 (p.ln : Int)], .int .u32 (p.gen : Int)] W fun e w' => ∃ q inv, e = .returned (.tuple #[.pointer (some ⟨q, 0, none⟩), .int .i64 0]) ∧ FG w1 p X rq cq q x inv w' ∧ (w'.cell? ⟨X, 0, none⟩ = some (.pointer (some ⟨dp, 0, none⟩)) ∧ w'.cell? ⟨X, 1, none⟩ = some (.int .i64 (p.a : Int)) ∧ w'.cell? ⟨X, 2, none⟩ = some (.int .i64 (p.n : Int)) ∧ w'.cell? ⟨X, 3, none⟩ = some (.int .i64 (p.g : Int)))) := Lib.hid fun W hW => (S9.out.next hW).open2 HP.out
        obtain ⟨c0, c1, c2, c3, c4, c5, c6⟩ := KC.out _ B9.out
        go_upto_region 18 with fail
        go_region_held3 (fun w' => w'.cell? ⟨X, 0, none⟩ = some (.pointer (some ⟨dp, 0, none⟩)) ∧ w'.cell? ⟨X, 1, none⟩ = some (.int .i64 (p.a : Int)) ∧ w'.cell? ⟨X, 2, none⟩ = some (.int .i64 (p.n : Int)) ∧ w'.cell? ⟨X, 3, none⟩ = some (.int .i64 (p.g : Int)) ∧ w'.cell? ⟨w.heap.size, 3, none⟩ = some (.int .i64 (p.st : Int)) ∧ w'.cell? ⟨w.heap.size, 4, none⟩ = some (.int .i64 (p.ln : Int)) ∧ w'.cell? ⟨w.heap.size, 5, none⟩ = some (.int .u32 (p.gen : Int)))
          (first | (refine ⟨?_, ?_, ?_, ?_, ?_, ?_, ?_⟩ <;> assumption) | go_keep)
          (first
            | (go_at_call 13; refine (OPN.out _ (Below.refl _ _).drew).mono ?_; rintro e w10 ⟨q, inv, rfl, hs, z0, z1, z2, z3⟩; have S10 := Lib.hid hs; have B10 := Lib.hid (keepd hs.bel B1.out); obtain ⟨u0, u1, u2, u3, u4, u5, u6⟩ := KC.out _ B10.out; clear hs))
        clear y0 y1 y2 y3 z0 z1 z2 z3 c0 c1 c2 c3 c4 c5 c6 u0 u1 u2 u3 u4 u5 u6 OPN S9
        have IV := Lib.hid S10.out.inv
        cases inv with
        | true =>
          go_wp2_with fail
          refine IV.out.mono ?_
          rintro e w11 ⟨rfl, rfl⟩
          clear IV
          go_wp2_with fail
          refine (AL.out _).mono ?_
          rintro e w12 ⟨rfl, hb⟩
          have S12 := Lib.hid (S10.out.next hb)
          have x5 := S12.out.ptr
          have r8 := S12.out.yes
          have FB := Lib.hid (keepd (keepd S12.out.bel B1.out) HB.out)
          clear hb S10
          go_wp2_with fail
          go_ret
          exact ⟨rfl, FB.out⟩
        | false =>
          go_wp2_with fail
          refine IV.out.mono ?_
          rintro e w11 ⟨rfl, rfl⟩
          have r8 := S10.out.no
          have x5 := S10.out.ptr
          have KX : Hid (∀ W, Below w10.heap.size w10 W → W.cell? ⟨X, 5, none⟩ = some (.pointer (some ⟨rq, 0, none⟩)) ∧ Below W0.heap.size W0 W) := Lib.hid fun W hW => ⟨(S10.out.next hW).ptr, keepd (S10.out.next hW).bel B1.out⟩
          have FN : Hid (∀ W, Below w10.heap.size w10 W → Calls Tryz.prog 15 #[.pointer (some ⟨q, 0, none⟩), .pointer (some ⟨cq, 0, none⟩), .pointer (some ⟨rq, 0, none⟩), .agg #[.int .u8 (x.k : Int), .int .i64 x.o, .int .i64 x.f, .int .i64 x.n, .string (Om.B x.d), .slice l.ca n5 l.cc, .slice l.ra n6 l.rc, .slice l.ka n7 l.kc]] W fun e w' => e = .returned (.bool true) ∧ Below W.heap.size W w') := Lib.hid fun W hW => (S10.out.next hW).found HP.out HIN.out.k _ _ _ _ _ _ _
          obtain ⟨d0, d1, d2, d3, d4, d5, d6, d7⟩ := KL.out _ B10.out
          clear IV S10
          go_upto_region 25 with fail
          go_region_held3 (fun w' => w'.cell? ⟨X, 5, none⟩ = some (.pointer (some ⟨rq, 0, none⟩)) ∧ w'.cell? ⟨w.heap.size + 1, 0, none⟩ = some (.int .u8 (x.k : Int)) ∧ w'.cell? ⟨w.heap.size + 1, 1, none⟩ = some (.int .i64 x.o) ∧ w'.cell? ⟨w.heap.size + 1, 2, none⟩ = some (.int .i64 x.f) ∧ w'.cell? ⟨w.heap.size + 1, 3, none⟩ = some (.int .i64 x.n) ∧ w'.cell? ⟨w.heap.size + 1, 4, none⟩ = some (.string (Om.B x.d)) ∧ w'.cell? ⟨w.heap.size + 1, 5, none⟩ = some (.slice l.ca n5 l.cc) ∧ w'.cell? ⟨w.heap.size + 1, 6, none⟩ = some (.slice l.ra n6 l.rc) ∧ w'.cell? ⟨w.heap.size + 1, 7, none⟩ = some (.slice l.ka n7 l.kc))
            (first | (refine ⟨?_, ?_, ?_, ?_, ?_, ?_, ?_, ?_, ?_⟩ <;> assumption) | go_keep)
            (first
              | (go_at_call 6; refine (AL.out _).mono ?_; rintro e w12 ⟨rfl, hb⟩; have B12 : Hid (Below w10.heap.size w10 w12) := Lib.hid (drew_below hb); obtain ⟨y5, hby⟩ := KX.out _ B12.out; obtain ⟨v0, v1, v2, v3, v4, v5, v6, v7⟩ := KL.out _ hby; clear hb hby)
              | (go_at_call 15; refine (FN.out _ B12.out).mono ?_; rintro e w13 ⟨rfl, hb⟩; have B13 : Hid (Below w10.heap.size w10 w13) := Lib.hid (keepd hb B12.out); obtain ⟨z5, hby⟩ := KX.out _ B13.out; obtain ⟨u0, u1, u2, u3, u4, u5, u6, u7⟩ := KL.out _ hby; have FB := Lib.hid (keepd hby HB.out); clear hb hby))
          go_wp2_with fail
          go_ret
          exact ⟨rfl, FB.out⟩
end So
end Go.Proofs.YtbmabcddciibfaaGreat
namespace Go.Proofs.YtbmabcddciibfaaGreat
namespace So
open Go.RowKit Go.ChangeShapes Go.WideShapes Go.Deep Go.WideElems Go.Maps
set_option linter.unusedVariables false
set_option maxRecDepth 100000
section
variable {H : Type} {enc : TypeId × Value → H} {w : World} {spare : Nat → Bool} {held : Bool}
theorem act_open {r : Reach} {b0 : Nat} {v : Value} {d : DataW H} {p : List MemPlace} (hv : Value.okWide Tryz.prog w r b0 34 v) (h : DataW.Trod enc Tryz.prog w 0 spare held 34 v d p) :
    ∃ x l, v = .agg (Ac.vals x l).toArray ∧ AcIn w x l := by
  obtain ⟨cs, rfl, hsz⟩ := okWide_struct Tryz.underlying34 hv
  obtain ⟨fuel, hf⟩ := h
  have hl : cs.toList.length = 8 := by rw [Array.length_toList]; exact hsz.trans cells_act14
  obtain ⟨x, l, e, hin⟩ := act_vals hl (show DataW.trod enc Tryz.prog w 0 spare held fuel 34 cs.toList = some _ from hf)
  exact ⟨x, l, by rw [← e], hin⟩
theorem cells_case14 : Tryz.prog.cellsOf 29 = 7 := by kernel_rfl
theorem cells_super14 : Tryz.prog.cellsOf 23 = 3 := by kernel_rfl
theorem cells_ext14 : Tryz.prog.cellsOf 25 = 2 := by kernel_rfl
theorem cells_u3214 : Tryz.prog.cellsOf 26 = 1 := by kernel_rfl
theorem cells_acts14 : Tryz.prog.cellsOf 27 = 1 := by kernel_rfl
theorem three_ints {n : Nat} {v0 v1 v2 : Value} {y : DataW H × List MemPlace} (h : DataW.trod enc Tryz.prog w 0 spare held n 23 [v0, v1, v2] = some y) : ∃ a b c, v0 = .int .i64 a ∧ v1 = .int .i64 b ∧ v2 = .int .i64 c := by
  obtain ⟨xs, m, _, _, _, hxl, hf⟩ := DataW.trod_struct Tryz.underlying23 h
  have hxl : xs.length = 3 := hxl
  have f0 : DataW.trod enc Tryz.prog w 0 spare held m 3 ((([v0, v1, v2] : List Value).drop 0).take (Tryz.prog.cellsOf 3)) = xs[0]? := hf 0 _ rfl
  have f1 : DataW.trod enc Tryz.prog w 0 spare held m 3 ((([v0, v1, v2] : List Value).drop 1).take (Tryz.prog.cellsOf 3)) = xs[1]? := hf 1 _ rfl
  have f2 : DataW.trod enc Tryz.prog w 0 spare held m 3 ((([v0, v1, v2] : List Value).drop 2).take (Tryz.prog.cellsOf 3)) = xs[2]? := hf 2 _ rfl
  rw [Dsk.cells_int, List.getElem?_eq_getElem (by omega)] at f0 f1 f2
  obtain ⟨a, e0, _, w0⟩ := DataW.trod_int Tryz.underlying3 f0
  obtain ⟨b, e1, _, w1⟩ := DataW.trod_int Tryz.underlying3 f1
  obtain ⟨c, e2, _, w2⟩ := DataW.trod_int Tryz.underlying3 f2
  exact ⟨a, b, c, by simpa using e0, by simpa using e1, by simpa using e2⟩
theorem two_ints {n : Nat} {v0 v1 : Value} {y : DataW H × List MemPlace} (h : DataW.trod enc Tryz.prog w 0 spare held n 25 [v0, v1] = some y) : ∃ a b, v0 = .int .i64 a ∧ v1 = .int .i64 b ∧ (Lit.int .i64 a).wf = true ∧ (Lit.int .i64 b).wf = true := by
  obtain ⟨xs, m, _, _, _, hxl, hf⟩ := DataW.trod_struct Tryz.underlying25 h
  have hxl : xs.length = 2 := hxl
  have f0 : DataW.trod enc Tryz.prog w 0 spare held m 3 ((([v0, v1] : List Value).drop 0).take (Tryz.prog.cellsOf 3)) = xs[0]? := hf 0 _ rfl
  have f1 : DataW.trod enc Tryz.prog w 0 spare held m 3 ((([v0, v1] : List Value).drop 1).take (Tryz.prog.cellsOf 3)) = xs[1]? := hf 1 _ rfl
  rw [Dsk.cells_int, List.getElem?_eq_getElem (by omega)] at f0 f1
  obtain ⟨a, e0, _, w0⟩ := DataW.trod_int Tryz.underlying3 f0
  obtain ⟨b, e1, _, w1⟩ := DataW.trod_int Tryz.underlying3 f1
  exact ⟨a, b, by simpa using e0, by simpa using e1, w0, w1⟩
theorem u32_wf {n : Int} (h : (Lit.int .u32 n).wf = true) : ∃ k : Nat, n = (k : Int) ∧ k < 4294967296 := by
  simp [Lit.wf, IntKind.min, IntKind.max, IntKind.signed, IntKind.bits] at h
  exact ⟨n.toNat, by omega, by omega⟩
structure CaseIn (w : World) (s m : Int) (gen : Nat) (la : Option Addr) (xs : List (Ac × Al)) : Prop where
  s : (Lit.int .i64 s).wf = true
  m : (Lit.int .i64 m).wf = true
  gen : gen < 4294967296
  len : xs.length ≤ 9223372036854775807
  acts : Acts w la xs
theorem case_open {r : Reach} {b0 : Nat} {v : Value} {d : DataW H} {p : List MemPlace} (hv : Value.okWide Tryz.prog w r b0 29 v) (h : DataW.Trod enc Tryz.prog w 0 spare held 29 v d p) :
    ∃ (a n g s m : Int) (gen : Nat) (la : Option Addr) (xs : List (Ac × Al)) (lc : Nat), v = .agg #[.int .i64 a, .int .i64 n, .int .i64 g, .int .i64 s, .int .i64 m, .int .u32 (gen : Int), .slice la xs.length lc] ∧ CaseIn w s m gen la xs := by
  obtain ⟨cs, rfl, hsz⟩ := okWide_struct Tryz.underlying29 hv
  obtain ⟨fuel, hf0⟩ := h
  have hl : cs.toList.length = 7 := by rw [Array.length_toList]; exact hsz.trans cells_case14
  obtain ⟨l⟩ := cs
  have hl : l.length = 7 := hl
  match l, hl with
  | [v0, v1, v2, v3, v4, v5, v6], _ =>
    have hf0 : DataW.trod enc Tryz.prog w 0 spare held fuel 29 [v0, v1, v2, v3, v4, v5, v6] = some _ := hf0
    obtain ⟨ys, k, _, _, _, hyl, hf⟩ := DataW.trod_struct Tryz.underlying29 hf0
    have hyl : ys.length = 4 := hyl
    have f0 : DataW.trod enc Tryz.prog w 0 spare held k 23 ((([v0, v1, v2, v3, v4, v5, v6] : List Value).drop 0).take (Tryz.prog.cellsOf 23)) = ys[0]? := hf 0 _ rfl
    have f1 : DataW.trod enc Tryz.prog w 0 spare held k 25 ((([v0, v1, v2, v3, v4, v5, v6] : List Value).drop 3).take (Tryz.prog.cellsOf 25)) = ys[1]? := hf 1 _ rfl
    have f2 : DataW.trod enc Tryz.prog w 0 spare held k 26 ((([v0, v1, v2, v3, v4, v5, v6] : List Value).drop 5).take (Tryz.prog.cellsOf 26)) = ys[2]? := hf 2 _ rfl
    have f3 : DataW.trod enc Tryz.prog w 0 spare held k 27 ((([v0, v1, v2, v3, v4, v5, v6] : List Value).drop 6).take (Tryz.prog.cellsOf 27)) = ys[3]? := hf 3 _ rfl
    rw [cells_super14, List.getElem?_eq_getElem (by omega)] at f0
    rw [cells_ext14, List.getElem?_eq_getElem (by omega)] at f1
    rw [cells_u3214, List.getElem?_eq_getElem (by omega)] at f2
    rw [cells_acts14, List.getElem?_eq_getElem (by omega)] at f3
    obtain ⟨a, n, g, rfl, rfl, rfl⟩ := three_ints f0
    obtain ⟨s, m, rfl, rfl, ws, wm⟩ := two_ints f1
    obtain ⟨gen, e2, _, w2⟩ := DataW.trod_int Tryz.underlying26 f2
    obtain ⟨la, xs, lc, e3, hn, hA⟩ := view_acts f3
    have e2 : v5 = .int .u32 gen := by simpa using e2
    obtain ⟨G, rfl, hG⟩ := u32_wf w2
    exact ⟨a, n, g, s, m, G, la, xs, lc, by rw [e2, e3], ⟨ws, wm, hG, hn, hA⟩⟩
end
end So
end Go.Proofs.YtbmabcddciibfaaGreat
