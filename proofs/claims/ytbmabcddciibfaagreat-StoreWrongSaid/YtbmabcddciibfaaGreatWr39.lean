/- Part 39 of the contracts and of the plain mathematics that the proof of the law rests on: StoreWrong, StoOpn. -/
import Derived.Test.YtbmabcddciibfaaGreatWr21
import Derived.Test.YtbmabcddciibfaaGreatWr37
import Derived.Test.YtbmabcddciibfaaGreatWr38
import Derived.RegionTactic
import Derived.Lib.SmallJoins
namespace Go.Proofs.YtbmabcddciibfaaGreat
namespace So
open Go.RowKit
set_option linter.unusedVariables false
set_option maxRecDepth 100000
set_option maxHeartbeats 16000000 in
theorem swrong_no {w : World} (a n g s m : Int) (gen : Nat) {la : Option Addr} {xs : List (Ac × Al)} (N lc : Nat) (hN : N = xs.length) (hN2 : N ≤ 9223372036854775807) (h : Acts w la xs) (t : Nat) (ht : t < 65536) (f : Nat) (hf : f < 256) (hbg : ∀ W, Calls Tryz.prog 7 #[.agg #[.int .i64 a, .int .i64 n, .int .i64 g, .int .i64 s, .int .i64 m, .int .u32 (gen : Int), .slice la N lc]] W (BegNo W)) :
    Calls Tryz.prog 4 #[.agg #[.int .i64 a, .int .i64 n, .int .i64 g, .int .i64 s, .int .i64 m, .int .u32 (gen : Int), .slice la N lc], .int .u16 (t : Int), .int .u8 (f : Int)] w fun e w' => e = .returned (.bool true) ∧ Below w.heap.size w w' := by
  obtain ⟨W0, hW0⟩ : ∃ W0, w.alloc (.cells #[.int .i64 a, .int .i64 n, .int .i64 g, .int .i64 s, .int .i64 m, .int .u32 (gen : Int), .slice la N lc] 29) = W0 := ⟨_, rfl⟩
  have hB : Below w.heap.size w W0 := by rw [← hW0]; exact (Below.refl _ _).alloc (Nat.le_refl _) _
  have hc : W0.heap[w.heap.size]? = some (.cells #[.int .i64 a, .int .i64 n, .int .i64 g, .int .i64 s, .int .i64 m, .int .u32 (gen : Int), .slice la N lc] 29 (0, 0)) := by rw [← hW0]; exact heap_alloc_new w _
  have HB := Lib.hid hB
  have AL := Lib.hid (fun w1 => salive_any w1)
  have KC : Hid (∀ W, Below W0.heap.size W0 W → W.cell? ⟨w.heap.size, 0, none⟩ = some (.int .i64 a) ∧ W.cell? ⟨w.heap.size, 1, none⟩ = some (.int .i64 n) ∧ W.cell? ⟨w.heap.size, 2, none⟩ = some (.int .i64 g) ∧ W.cell? ⟨w.heap.size, 3, none⟩ = some (.int .i64 s) ∧ W.cell? ⟨w.heap.size, 4, none⟩ = some (.int .i64 m) ∧ W.cell? ⟨w.heap.size, 5, none⟩ = some (.int .u32 (gen : Int)) ∧ W.cell? ⟨w.heap.size, 6, none⟩ = some (.slice la N lc)) := Lib.hid fun W hW => by
    have r := (hW.block w.heap.size (Dsk.lt_of_heap hc)).trans hc
    refine ⟨?_, ?_, ?_, ?_, ?_, ?_, ?_⟩ <;> (rw [cell_of_row _ _ _ _ _ _ r]; rfl)
  have BG := Lib.hid hbg
  have AW : Acts W0 la xs := fun hn => by
    obtain ⟨b, off, e, hlt, hall⟩ := h hn
    refine ⟨b, off, e, Nat.lt_of_lt_of_le hlt hB.size, fun i z hz => ?_⟩
    obtain ⟨h1, h2⟩ := hall i z hz
    exact ⟨fun j v hv => (hB.cell (p := ⟨b, off + i * 8 + j, none⟩) hlt).trans (h1 j v hv), h2.up hB⟩
  have FT := Lib.hid (sfits_any a n g s m gen N lc hN hN2 AW)
  unfold FitEnd at FT
  unfold BegNo at BG
  obtain ⟨c0, c1, c2, c3, c4, c5, c6⟩ := KC.out W0 (Below.refl _ _)
  clear hB hc h hN hbg AW ht hf
  go_enter Tryz.func4, Tryz.ntmps4
  go_wp2_with fail
  clear hW0
  refine FT.out.mono ?_
  rintro e w1 ⟨res, rfl, hb, hres⟩
  have B1 : Hid (Below W0.heap.size W0 w1) := hb
  have RES := Lib.hid hres
  clear hb hres c0 c1 c2 c3 c4 c5 c6 FT
  obtain ⟨c0, c1, c2, c3, c4, c5, c6⟩ := KC.out _ B1.out
  cases res with
  | false =>
    go_wp2_with fail
    refine (AL.out _).mono ?_
    rintro e w2 ⟨rfl, hb⟩
    have FB := Lib.hid (keepd (keepd hb B1.out) HB.out)
    clear hb
    go_wp2_with fail
    go_ret
    exact ⟨rfl, FB.out⟩
  | true =>
    go_wp2_with fail
    refine (BG.out _).mono ?_
    rintro e w2 ⟨rfl, hb⟩
    have B2 := Lib.hid (keepd hb B1.out)
    clear hb
    go_wp2_with fail
    refine (AL.out _).mono ?_
    rintro e w3 ⟨rfl, hb⟩
    have FB := Lib.hid (keepd (keepd hb B2.out) HB.out)
    clear hb
    go_wp2_with fail
    go_ret
    exact ⟨rfl, FB.out⟩
set_option maxHeartbeats 16000000 in
theorem swrong_yes {w : World} (p : Pa) (hp : p.Ok) {la : Option Addr} {xs : List (Ac × Al)} (N lc : Nat) (hN : N = xs.length) (hN2 : N ≤ 9223372036854775807) (h : Acts w la xs) (t : Nat) (ht : t < 65536) (f : Nat) (hf : f < 256) :
    Calls Tryz.prog 4 #[.agg #[.int .i64 (p.a : Int), .int .i64 (p.n : Int), .int .i64 (p.g : Int), .int .i64 (p.st : Int), .int .i64 (p.ln : Int), .int .u32 (p.gen : Int), .slice la N lc], .int .u16 (t : Int), .int .u8 (f : Int)] w fun e w' => e = .returned (.bool true) ∧ Below w.heap.size w w' := by
  obtain ⟨W0, hW0⟩ : ∃ W0, w.alloc (.cells #[.int .i64 (p.a : Int), .int .i64 (p.n : Int), .int .i64 (p.g : Int), .int .i64 (p.st : Int), .int .i64 (p.ln : Int), .int .u32 (p.gen : Int), .slice la N lc] 29) = W0 := ⟨_, rfl⟩
  have hB : Below w.heap.size w W0 := by rw [← hW0]; exact (Below.refl _ _).alloc (Nat.le_refl _) _
  have hc : W0.heap[w.heap.size]? = some (.cells #[.int .i64 (p.a : Int), .int .i64 (p.n : Int), .int .i64 (p.g : Int), .int .i64 (p.st : Int), .int .i64 (p.ln : Int), .int .u32 (p.gen : Int), .slice la N lc] 29 (0, 0)) := by rw [← hW0]; exact heap_alloc_new w _
  have HB := Lib.hid hB
  have AL := Lib.hid (fun w1 => salive_any w1)
  have KC : Hid (∀ W, Below W0.heap.size W0 W → W.cell? ⟨w.heap.size, 0, none⟩ = some (.int .i64 (p.a : Int)) ∧ W.cell? ⟨w.heap.size, 1, none⟩ = some (.int .i64 (p.n : Int)) ∧ W.cell? ⟨w.heap.size, 2, none⟩ = some (.int .i64 (p.g : Int)) ∧ W.cell? ⟨w.heap.size, 3, none⟩ = some (.int .i64 (p.st : Int)) ∧ W.cell? ⟨w.heap.size, 4, none⟩ = some (.int .i64 (p.ln : Int)) ∧ W.cell? ⟨w.heap.size, 5, none⟩ = some (.int .u32 (p.gen : Int)) ∧ W.cell? ⟨w.heap.size, 6, none⟩ = some (.slice la N lc)) := Lib.hid fun W hW => by
    have r := (hW.block w.heap.size (Dsk.lt_of_heap hc)).trans hc
    refine ⟨?_, ?_, ?_, ?_, ?_, ?_, ?_⟩ <;> (rw [cell_of_row _ _ _ _ _ _ r]; rfl)
  have BG : Hid (∀ W, Calls Tryz.prog 7 #[.agg #[.int .i64 (p.a : Int), .int .i64 (p.n : Int), .int .i64 (p.g : Int), .int .i64 (p.st : Int), .int .i64 (p.ln : Int), .int .u32 (p.gen : Int), .slice la N lc]] W (BegYes p W)) := Lib.hid fun W => sbegun_yes p hp (.slice la N lc) W
  have AW : Acts W0 la xs := fun hn => by
    obtain ⟨b, off, e, hlt, hall⟩ := h hn
    refine ⟨b, off, e, Nat.lt_of_lt_of_le hlt hB.size, fun i z hz => ?_⟩
    obtain ⟨h1, h2⟩ := hall i z hz
    exact ⟨fun j v hv => (hB.cell (p := ⟨b, off + i * 8 + j, none⟩) hlt).trans (h1 j v hv), h2.up hB⟩
  have FT := Lib.hid (sfits_any (p.a : Int) (p.n : Int) (p.g : Int) (p.st : Int) (p.ln : Int) p.gen N lc hN hN2 AW)
  unfold FitEnd at FT
  have AT : Hid (∀ k z, xs[k]? = some z → ∃ b off, la = some ⟨b, off, none⟩ ∧ AcIn w z.1 z.2 ∧ ∀ W, Below W0.heap.size W0 W → W.cell? ⟨b, off + k * 8, none⟩ = some (.int .u8 (z.1.k : Int)) ∧ W.cell? ⟨b, off + k * 8 + 1, none⟩ = some (.int .i64 z.1.o) ∧ W.cell? ⟨b, off + k * 8 + 2, none⟩ = some (.int .i64 z.1.f) ∧ W.cell? ⟨b, off + k * 8 + 3, none⟩ = some (.int .i64 z.1.n) ∧ W.cell? ⟨b, off + k * 8 + 4, none⟩ = some (.string (Om.B z.1.d)) ∧ W.cell? ⟨b, off + k * 8 + 5, none⟩ = some (.slice z.2.ca z.1.cs.length z.2.cc) ∧ W.cell? ⟨b, off + k * 8 + 6, none⟩ = some (.slice z.2.ra z.1.rm.length z.2.rc) ∧ W.cell? ⟨b, off + k * 8 + 7, none⟩ = some (.slice z.2.ka z.1.kp.length z.2.kc)) := Lib.hid fun k z hz => by
    obtain ⟨b, off, e, hlt, hall⟩ := h (fun e => by rw [e] at hz; simp at hz)
    obtain ⟨h1, h2⟩ := hall k z hz
    have up : ∀ W, Below W0.heap.size W0 W → ∀ j v, (z.1.vals z.2)[j]? = some v → W.cell? ⟨b, off + k * 8 + j, none⟩ = some v := fun W hW j v hv => ((hB.trans (hW.mono hB.size)).cell (p := ⟨b, off + k * 8 + j, none⟩) hlt).trans (h1 j v hv)
    refine ⟨b, off, e, h2, fun W hW => ⟨up W hW 0 _ rfl, up W hW 1 _ rfl, up W hW 2 _ rfl, up W hW 3 _ rfl, up W hW 4 _ rfl, up W hW 5 _ rfl, up W hW 6 _ rfl, up W hW 7 _ rfl⟩⟩
  have HP := Lib.hid hp
  have HN := Lib.hid hN
  have HTF : Hid (t < 65536 ∧ f < 256) := Lib.hid ⟨ht, hf⟩
  obtain ⟨c0, c1, c2, c3, c4, c5, c6⟩ := KC.out W0 (Below.refl _ _)
  clear hB hc h hN hp AW ht hf
  go_enter Tryz.func4, Tryz.ntmps4
  go_wp2_with fail
  clear hW0
  refine FT.out.mono ?_
  rintro e w1 ⟨res, rfl, hb, hres⟩
  have B1 : Hid (Below W0.heap.size W0 w1) := hb
  have RES := Lib.hid hres
  clear hb hres c0 c1 c2 c3 c4 c5 c6 FT
  obtain ⟨c0, c1, c2, c3, c4, c5, c6⟩ := KC.out _ B1.out
  cases res with
  | false =>
    go_wp2_with fail
    refine (AL.out _).mono ?_
    rintro e w2 ⟨rfl, hb⟩
    have FB := Lib.hid (keepd (keepd hb B1.out) HB.out)
    clear hb
    go_wp2_with fail
    go_ret
    exact ⟨rfl, FB.out⟩
  | true =>
    have hres := RES.out rfl
    have FXS : Hid ((∀ z ∈ xs, FitA z.1) ∧ N ≤ 24) := Lib.hid ⟨hres.1, by have := HN.out; have := hres.2.1; omega⟩
    clear hres RES
    go_wp2_with fail
    refine (BG.out _).mono ?_
    intro e w2 hbeg
    obtain ⟨X, dp, rq, rfl, hs⟩ := FA.begin hbeg
    have S2 : Hid (FA w1 p X dp rq 0 w2) := hs
    clear c0 c1 c2 c3 c4 c5 c6 hs hbeg BG
    go_wp2_with fail
    go_loopw [11] (fun i wr => ∃ k : Nat, i = .int .i64 (k : Int) ∧ k ≤ N ∧ Hid (FA w1 p X dp rq k wr)) (fun i _ => N - (Lib.intOf i).toNat)
    case atStart => exact ⟨0, rfl, Nat.zero_le _, S2⟩
    case round =>
      obtain ⟨k, rfl, hk, hat⟩ := hrel
      have BW : Hid (Below W0.heap.size W0 wr) := Lib.hid (keepd hat.out.bel B1.out)
      by_cases hlt : k < N
      · have d1 : decide ((k : Int) < (N : Int)) = true := by simp; omega
        have d2 : decide (k < N) = true := by simp; omega
        have i1 : (0 : Int) ≤ (k : Int) := by omega
        have i2 : (k : Int) < (N : Int) := by omega
        have hw1 : IntKind.i64.wrap ((k : Int) + 1) = ((k + 1 : Nat) : Int) := by rw [IntWalk.i64_in _ (by omega)]; rfl
        obtain ⟨z, hz⟩ : ∃ z, xs[k]? = some z := ⟨xs[k]'(by have := HN.out; omega), List.getElem?_eq_getElem _⟩
        obtain ⟨b, off, hla, hzin, hcl⟩ := AT.out k z hz
        have AC : Hid (∀ W, Below wr.heap.size wr W → Calls Tryz.prog 8 #[.pointer (some ⟨X, 0, none⟩), .agg #[.int .i64 (p.a : Int), .int .i64 (p.n : Int), .int .i64 (p.g : Int), .int .i64 (p.st : Int), .int .i64 (p.ln : Int), .int .u32 (p.gen : Int), .slice la N lc], .agg #[.int .u8 (z.1.k : Int), .int .i64 z.1.o, .int .i64 z.1.f, .int .i64 z.1.n, .string (Om.B z.1.d), .slice z.2.ca z.1.cs.length z.2.cc, .slice z.2.ra z.1.rm.length z.2.rc, .slice z.2.ka z.1.kp.length z.2.kc]] W fun e w' => e = .returned (.bool true) ∧ FA w1 p X dp rq (k + 1) w') := Lib.hid fun W hW => (hat.out.next hW).act HP.out (keepd B1.out HB.out) (by have := FXS.out.2; omega) hzin (FXS.out.1 z (List.mem_of_getElem? hz)) (.slice la N lc)
        subst hla
        have CL := Lib.hid hcl
        clear hz hzin hcl
        obtain ⟨c0, c1, c2, c3, c4, c5, c6⟩ := KC.out _ BW.out
        obtain ⟨e0, e1, e2, e3, e4, e5, e6, e7⟩ := CL.out _ BW.out
        go_upto_region 10 with fail
        go_region_held3 (fun w' => w'.cell? ⟨w.heap.size, 0, none⟩ = some (.int .i64 (p.a : Int)) ∧ w'.cell? ⟨w.heap.size, 1, none⟩ = some (.int .i64 (p.n : Int)) ∧ w'.cell? ⟨w.heap.size, 2, none⟩ = some (.int .i64 (p.g : Int)) ∧ w'.cell? ⟨w.heap.size, 3, none⟩ = some (.int .i64 (p.st : Int)) ∧ w'.cell? ⟨w.heap.size, 4, none⟩ = some (.int .i64 (p.ln : Int)) ∧ w'.cell? ⟨w.heap.size, 5, none⟩ = some (.int .u32 (p.gen : Int)) ∧ w'.cell? ⟨w.heap.size, 6, none⟩ = some (.slice (some ⟨b, off, none⟩) N lc) ∧ w'.cell? ⟨b, off + k * 8, none⟩ = some (.int .u8 (z.1.k : Int)) ∧ w'.cell? ⟨b, off + k * 8 + 1, none⟩ = some (.int .i64 z.1.o) ∧ w'.cell? ⟨b, off + k * 8 + 2, none⟩ = some (.int .i64 z.1.f) ∧ w'.cell? ⟨b, off + k * 8 + 3, none⟩ = some (.int .i64 z.1.n) ∧ w'.cell? ⟨b, off + k * 8 + 4, none⟩ = some (.string (Om.B z.1.d)) ∧ w'.cell? ⟨b, off + k * 8 + 5, none⟩ = some (.slice z.2.ca z.1.cs.length z.2.cc) ∧ w'.cell? ⟨b, off + k * 8 + 6, none⟩ = some (.slice z.2.ra z.1.rm.length z.2.rc) ∧ w'.cell? ⟨b, off + k * 8 + 7, none⟩ = some (.slice z.2.ka z.1.kp.length z.2.kc))
          (first | (refine ⟨?_, ?_, ?_, ?_, ?_, ?_, ?_, ?_, ?_, ?_, ?_, ?_, ?_, ?_, ?_⟩ <;> assumption) | go_keep)
          (first
            | (go_at_call 8; refine (AC.out _ (Below.refl _ _).drew).mono ?_; rintro e w3 ⟨rfl, hs⟩; have S3 := Lib.hid hs; have B3 := Lib.hid (keepd hs.bel B1.out); obtain ⟨u0, u1, u2, u3, u4, u5, u6⟩ := KC.out _ B3.out; obtain ⟨v0, v1, v2, v3, v4, v5, v6, v7⟩ := CL.out _ B3.out; clear hs))
        clear c0 c1 c2 c3 c4 c5 c6 e0 e1 e2 e3 e4 e5 e6 e7 u0 u1 u2 u3 u4 u5 u6 v0 v1 v2 v3 v4 v5 v6 v7 AC CL
        go_wp2_with fail
        go_roundw
        case rel => exact ⟨k + 1, rfl, by omega, S3⟩
        case measure => simp [Lib.intOf]; omega
      · obtain rfl : k = N := by omega
        have d1 : decide ((k : Int) < (k : Int)) = false := by simp
        have d2 : decide (k < k) = false := by simp
        have S4 := Lib.hid hat.out
        have K24 : Hid (k ≤ 24) := Lib.hid FXS.out.2
        obtain ⟨c0, c1, c2, c3, c4, c5, c6⟩ := KC.out _ BW.out
        obtain ⟨x0, x5⟩ := hat.out.cells
        have FL := Lib.hid (hat.out.flush (by have := K24.out; omega))
        clear hat FXS AT
        go_wp2_with fail
        refine FL.out.mono ?_
        rintro e w5 ⟨ux, rfl, hs⟩
        obtain ⟨V, l, hs⟩ := hs.seen
        have S5 := Lib.hid hs
        have B5 := Lib.hid (keepd hs.bel B1.out)
        have KX : Hid (∀ W, Below w5.heap.size w5 W → ((W.cell? ⟨X, 0, none⟩ = some (.pointer (some ⟨dp, 0, none⟩)) ∧ W.cell? ⟨X, 1, none⟩ = some (.int .i64 (p.a : Int)) ∧ W.cell? ⟨X, 2, none⟩ = some (.int .i64 (p.n : Int)) ∧ W.cell? ⟨X, 3, none⟩ = some (.int .i64 (p.g : Int))) ∧ W.cell? ⟨X, 5, none⟩ = some (.pointer (some ⟨rq, 0, none⟩)) ∧ W.cell? ⟨rq, 8, none⟩ = some (.bool V)) ∧ (W.cell? ⟨w.heap.size, 0, none⟩ = some (.int .i64 (p.a : Int)) ∧ W.cell? ⟨w.heap.size, 1, none⟩ = some (.int .i64 (p.n : Int)) ∧ W.cell? ⟨w.heap.size, 2, none⟩ = some (.int .i64 (p.g : Int)) ∧ W.cell? ⟨w.heap.size, 3, none⟩ = some (.int .i64 (p.st : Int)) ∧ W.cell? ⟨w.heap.size, 4, none⟩ = some (.int .i64 (p.ln : Int)) ∧ W.cell? ⟨w.heap.size, 5, none⟩ = some (.int .u32 (p.gen : Int)) ∧ W.cell? ⟨w.heap.size, 6, none⟩ = some (.slice la k lc))) := Lib.hid fun W hW => by
          obtain ⟨c0, c1, c2, c3, c5, c8⟩ := (S5.out.next hW).cells
          exact ⟨⟨⟨c0, c1, c2, c3⟩, c5, c8⟩, KC.out W (keepd hW B5.out)⟩
        have RM := Lib.hid (fun w' => HP.out.rroom w')
        have BY : Hid (∀ W, Below w5.heap.size w5 W → Calls Tryz.prog 17 #[.pointer (some ⟨dp, 0, none⟩)] W fun e w' => e = .returned (.string (Om.B l)) ∧ W = w') := Lib.hid fun W hW => (S5.out.next hW).bytes
        clear hs FL x0 x5 c0 c1 c2 c3 c4 c5 c6 S4
        obtain ⟨⟨⟨x0, x1, x2, x3⟩, x5, r8⟩, c0, c1, c2, c3, c4, c5, c6⟩ := KX.out _ (Below.refl _ _)
        clear x0 x1 x2 x3 x5 r8
        go_wp2_with fail
        refine (RM.out _).mono ?_
        rintro e w6 ⟨rfl, hb⟩
        have K6 : Hid (Below w5.heap.size w5 w6) := hb
        clear hb c0 c1 c2 c3 c4 c5 c6 RM
        obtain ⟨⟨⟨x0, x1, x2, x3⟩, x5, r8⟩, c0, c1, c2, c3, c4, c5, c6⟩ := KX.out _ K6.out
        have hNU := HP.out.nums
        obtain ⟨n1, hn1⟩ : ∃ q, q = p.N + 12 := ⟨_, rfl⟩
        have hpg : p.pg = n1 / 13 := by rw [hn1]; rfl
        have hpgs : p.pg ≤ 1048576 := by have := hNU.N1; rw [hpg]; omega
        obtain ⟨J, hJ⟩ : ∃ J, J = turnN p V := ⟨_, rfl⟩
        have hJs : J ≤ 1048576 := by rw [hJ]; unfold turnN; split <;> omega
        obtain ⟨J1, hJ1⟩ : ∃ q, q = J + 1 := ⟨_, rfl⟩
        obtain ⟨Q, hQ⟩ : ∃ q, q = 64 * J1 := ⟨_, rfl⟩
        obtain ⟨R, hR⟩ : ∃ q, q = t % Q := ⟨_, rfl⟩
        obtain ⟨A, hA⟩ : ∃ q, q = 64 * p.st := ⟨_, rfl⟩
        obtain ⟨K, hK⟩ : ∃ q, q = A + R := ⟨_, rfl⟩
        have hRQ : R < Q := by rw [hR]; exact Nat.mod_lt _ (by omega)
        have htf := HTF.out
        have hst : p.st ≤ 1048576 := by have := HP.out.high; have := hNU.a1; omega
        have hlen := S5.out.len
        have hKn : K < 64 * p.a := by
          have h1 := hNU.size
          have h2 := HP.out.high
          have h3 : J ≤ p.pg := by rw [hJ]; unfold turnN; split <;> omega
          omega
        obtain ⟨n2, hn2⟩ : ∃ q, q = 64 * p.a := ⟨_, rfl⟩
        have hn2s : n2 ≤ 67108864 := by have := hNU.a1; omega
        rw [← hn2] at hKn hlen
        have hKa : 64 * p.st ≤ K := by omega
        have hKb : K < 64 * p.st + 64 * (turnN p V + 1) := by rw [← hJ]; omega
        have TU := Lib.hid (S5.out.turn HP.out (UInt8.ofNat f) hKa hKb)
        clear hKa hKb
        obtain ⟨s, T, sp, sq, hs, hT, hss, hep, heq, hTe, ho1, ho2, hTl⟩ := turned_parts l n2 K (UInt8.ofNat f) hlen hn2s hKn
        rw [← hT] at TU
        have LD := Lib.hid (fun w' => Dsk.load_any T w' (by omega))
        have OT : Hid (∀ W, Below w5.heap.size w5 W → Calls Tryz.prog 13 #[.pointer (some ⟨dp, 0, none⟩), .agg #[.int .i64 (p.a : Int), .int .i64 (p.n : Int), .int .i64 (p.g : Int)], .agg #[.int .i64 (p.st : Int), .int .i64 (p.ln : Int)], .int .u32 (nextG p.gen : Int)] W (NoStore (nextE p.gen) W)) := Lib.hid fun W hW => S5.out.other HP.out W hW
        have ND := Lib.hid (fun w' => no_disk p w')
        have FD := Lib.hid (fun w' o (hd : Dsk.Dk w' o (Dm.fresh 1)) => few_disk HP.out hd)
        have N1 := Lib.hid (fun w' => Dsk.new_any 1 w' (by decide))
        have NR := Lib.hid (fun w' => nread 1 0 1 w')
        have NA := Lib.hid (fun w' => nadd w')
        have NW := Lib.hid (fun w' => nwrite 1 0 ⟨#[]⟩ w')
        have NM := Lib.hid (fun w' => nremove w')
        have NS := Lib.hid (fun w' => nspoil w')
        have NL := Lib.hid (fun w' => nleft w')
        have NH := Lib.hid (fun w' => nhas 1 w')
        have NI := Lib.hid (fun w' => ninv w')
        have NE := Lib.hid (fun w' => nall w')
        have GW := Lib.hid (nextG_wrap p.gen (by have := HP.out.gen2; omega))
        have CMP : Hid ((T = l ∧ ((Om.B T).toList == s.toList) = true ∧ (if T = l then (0 : Int) else 165) = 0) ∨ (T ≠ l ∧ ((Om.B T).toList == s.toList) = false ∧ (if T = l then (0 : Int) else 165) = 165)) := Lib.hid (by
          by_cases e : T = l
          · exact .inl ⟨e, by rw [hs, e]; exact beq_self_eq_true _, by rw [if_pos e]⟩
          · exact .inr ⟨e, by rw [hs]; exact Dsk.B_ne e, by rw [if_neg e]⟩)
        rw [← hs] at BY
        obtain ⟨E1, hE1⟩ : ∃ E, E = (if T = l then (0 : Int) else 165) := ⟨_, rfl⟩
        rw [← hE1] at TU CMP
        unfold NoStore at OT ND FD
        have HV := Lib.hid (show (V = true → J = 0) ∧ (V = false → J = p.pg) by rw [hJ]; unfold turnN; exact ⟨fun e => by rw [if_pos e], fun e => by rw [if_neg (by rw [e]; decide)]⟩)
        obtain ⟨P, hP⟩ : ∃ P, P = p.pg := ⟨_, rfl⟩
        rw [← hP] at HV hpg hpgs
        have K0 : (0 : Int) ≤ (K : Int) := by omega
        have K1 : (K : Int) ≤ (n2 : Int) := by omega
        have K2 : (0 : Int) ≤ (K : Int) + 1 := by omega
        have K3 : (K : Int) + 1 ≤ (n2 : Int) := by omega
        have hKs : K ≤ 67108864 := by omega
        have K4 : IntKind.i64.wrap ((K : Int) + 1) = (K : Int) + 1 := IntWalk.i64_in _ (by omega)
        have HO := Lib.hid (And.intro ho1 ho2)
        clear hTl ho1 ho2
        have hy := htf.2
        have J0 : Hid (V = true → (J : Int) = 0) := Lib.hid fun e => by rw [HV.out.1 e]; rfl
        have JP : Hid (V = false → (P : Int) = (J : Int)) := Lib.hid fun e => by rw [HV.out.2 e]
        have KEEPN : Hid (n1 / 13 = P ∧ P ≤ 1048576 ∧ (V = true → J = 0) ∧ (V = false → J = P) ∧ J1 = J + 1 ∧ Q = 64 * J1 ∧ R = t % Q ∧ A = 64 * p.st ∧ K = A + R ∧ p.st ≤ 1048576 ∧ n1 = p.N + 12 ∧ p.N ≤ 1048576 ∧ t < 65536) := Lib.hid ⟨hpg.symm, hpgs, HV.out.1, HV.out.2, hJ1, hQ, hR, hA, hK, hst, hn1, hNU.N1, htf.1⟩
        clear hKs hNU hn1 hpg hpgs hJ hJs hJ1 hQ hR hA hK hRQ htf hst hlen hKn hn2 hn2s hs hT hE1 hP J0 JP HV
        cases V with
        | true =>
          obtain ⟨g1, g2, g3, g4, g5, g6, g7, g8, g9, g10, g11, g12, g13⟩ := KEEPN.out
          have j0 := g3 rfl
          have hQ64 : Q = 64 := by omega
          rw [hQ64] at g7
          have hw2 : IntKind.i64.wrap ((p.N : Int) + 12) = (n1 : Int) := by rw [IntWalk.i64_in _ (by omega)]; omega
          have hw3 : (n1 : Int) / 13 = (P : Int) := by omega
          have r1 : IntKind.i64.wrap (64 * (p.st : Int)) = (A : Int) := by rw [IntWalk.i64_in _ (by omega)]; omega
          have r4b : (t : Int).tmod 64 = (R : Int) := by rw [Int.tmod_eq_emod_of_nonneg (by omega)]; omega
          have r4 : (t : Int) % 64 = (R : Int) := by omega
          have r5 : IntKind.i64.wrap ((A : Int) + (R : Int)) = (K : Int) := by rw [IntWalk.i64_in _ (by omega)]; omega
          have r6 : IntKind.i64.wrap (t : Int) = (t : Int) := IntWalk.i64_in _ (by omega)
          clear KEEPN g1 g2 g3 g4 g5 g6 g7 g8 g9 g10 g11 g12 g13 j0 hQ64
          go_upto_region 16 with fail
          go_quiet (fail)
          generalize hW7 : w6.drewN nq = w7
          have K7 : Hid (Below w5.heap.size w5 w7) := Lib.hid (by rw [← hW7]; exact below_drewN K6.out nq)
          clear hW7 hw2 hw3 r1 r4 r4b r5 r6 x0 x1 x2 x3 x5 r8 c0 c1 c2 c3 c4 c5 c6
          obtain ⟨⟨⟨x0, x1, x2, x3⟩, x5, r8⟩, c0, c1, c2, c3, c4, c5, c6⟩ := KX.out _ K7.out
          clear x1 x2 x3 x5 r8 c0 c1 c2 c3 c4 c5 c6
          go_wp2_with fail
          refine (BY.out _ K7.out).mono ?_
          rintro e w8 ⟨rfl, rfl⟩
          clear x0 BY
          obtain ⟨ho1, ho2⟩ := HO.out
          have hcv := str_turn w7 f hy
          go_upto_region 18 with fail
          go_region
          generalize hW9 : (w7.alloc (.cells #[.int .u8 (f : Int)] 5)).drew = w9
          have K9 : Hid (Below w5.heap.size w5 w9) := Lib.hid (by rw [← hW9]; exact (K7.out.alloc K7.out.size _).drew)
          clear hW9 hcv ho1 ho2 hss hep heq hTe K0 K1 K2 K3 K4 hy
          obtain ⟨⟨⟨x0, x1, x2, x3⟩, x5, r8⟩, c0, c1, c2, c3, c4, c5, c6⟩ := KX.out _ K9.out
          go_upto_region 19 with fail
          go_region_held3 (fun w' => w'.cell? ⟨X, 1, none⟩ = some (.int .i64 (p.a : Int)) ∧ w'.cell? ⟨X, 2, none⟩ = some (.int .i64 (p.n : Int)) ∧ w'.cell? ⟨X, 3, none⟩ = some (.int .i64 (p.g : Int)) ∧ w'.cell? ⟨w.heap.size, 3, none⟩ = some (.int .i64 (p.st : Int)) ∧ w'.cell? ⟨w.heap.size, 4, none⟩ = some (.int .i64 (p.ln : Int)) ∧ w'.cell? ⟨w.heap.size, 5, none⟩ = some (.int .u32 (p.gen : Int)))
            (first | (refine ⟨?_, ?_, ?_, ?_, ?_, ?_⟩ <;> assumption) | go_keep)
            (first
              | (go_at_call 18; refine (LD.out _).mono ?_; rintro e w10 ⟨o, rfl, hd, ho, hb⟩; have D10 := Lib.hid hd; have O10 : Hid (∀ j, o.fp j → w5.heap.size ≤ j) := Lib.hid fun j hj => Nat.le_trans K9.out.size (ho j hj); have L10 : Hid (Below w5.heap.size w5 w10) := Lib.hid (keepd (drew_below hb) K9.out); obtain ⟨⟨⟨y0, y1, y2, y3⟩, y5, s8⟩, u0, u1, u2, u3, u4, u5, u6⟩ := KX.out _ L10.out; clear hd ho hb)
              | (go_at_call 13; refine (TU.out _ L10.out _ D10.out O10.out).mono ?_; rintro e w11 ⟨v, rfl, hb⟩; have L11 : Hid (Below w5.heap.size w5 w11) := hb; obtain ⟨⟨⟨z0, z1, z2, z3⟩, z5, t8⟩, v0, v1, v2, v3, v4, v5, v6⟩ := KX.out _ L11.out; clear hb))
          clear x0 x1 x2 x3 x5 r8 c0 c1 c2 c3 c4 c5 c6 y0 y1 y2 y3 y5 s8 u0 u1 u2 u3 u4 u5 u6 D10 O10 LD TU K9
          have gw := GW.out
          go_upto_region 20 with fail
          go_region_held3 (fun w' => w'.cell? ⟨X, 0, none⟩ = some (.pointer (some ⟨dp, 0, none⟩)) ∧ w'.cell? ⟨X, 1, none⟩ = some (.int .i64 (p.a : Int)) ∧ w'.cell? ⟨X, 2, none⟩ = some (.int .i64 (p.n : Int)) ∧ w'.cell? ⟨X, 3, none⟩ = some (.int .i64 (p.g : Int)) ∧ w'.cell? ⟨w.heap.size, 3, none⟩ = some (.int .i64 (p.st : Int)) ∧ w'.cell? ⟨w.heap.size, 4, none⟩ = some (.int .i64 (p.ln : Int)) ∧ w'.cell? ⟨w.heap.size, 5, none⟩ = some (.int .u32 (p.gen : Int)))
            (first | (refine ⟨?_, ?_, ?_, ?_, ?_, ?_, ?_⟩ <;> assumption) | go_keep)
            (first
              | (go_at_call 13; refine (OT.out _ L11.out.drew).mono ?_; rintro e w12 ⟨rfl, hb⟩; have L12 : Hid (Below w5.heap.size w5 w12) := Lib.hid (keepd hb L11.out.drew); obtain ⟨⟨⟨x0, x1, x2, x3⟩, x5, r8⟩, c0, c1, c2, c3, c4, c5, c6⟩ := KX.out _ L12.out; clear hb))
          clear z0 z1 z2 z3 z5 t8 v0 v1 v2 v3 v4 v5 v6 gw OT L11
          go_upto_region 21 with fail
          go_region_held3 (fun w' => w'.cell? ⟨X, 1, none⟩ = some (.int .i64 (p.a : Int)) ∧ w'.cell? ⟨X, 2, none⟩ = some (.int .i64 (p.n : Int)) ∧ w'.cell? ⟨X, 3, none⟩ = some (.int .i64 (p.g : Int)) ∧ w'.cell? ⟨w.heap.size, 3, none⟩ = some (.int .i64 (p.st : Int)) ∧ w'.cell? ⟨w.heap.size, 4, none⟩ = some (.int .i64 (p.ln : Int)) ∧ w'.cell? ⟨w.heap.size, 5, none⟩ = some (.int .u32 (p.gen : Int)))
            (first | (refine ⟨?_, ?_, ?_, ?_, ?_, ?_⟩ <;> assumption) | go_keep)
            (first
              | (go_at_call 13; refine (ND.out _).mono ?_; rintro e w13 ⟨rfl, hb⟩; have L13 : Hid (Below w5.heap.size w5 w13) := Lib.hid (keepd hb L12.out.drew); obtain ⟨⟨⟨z0, z1, z2, z3⟩, z5, t8⟩, v0, v1, v2, v3, v4, v5, v6⟩ := KX.out _ L13.out; clear hb))
          clear x0 x1 x2 x3 x5 r8 c0 c1 c2 c3 c4 c5 c6 ND L12
          go_upto_region 22 with fail
          go_region_held3 (fun w' => w'.cell? ⟨X, 1, none⟩ = some (.int .i64 (p.a : Int)) ∧ w'.cell? ⟨X, 2, none⟩ = some (.int .i64 (p.n : Int)) ∧ w'.cell? ⟨X, 3, none⟩ = some (.int .i64 (p.g : Int)) ∧ w'.cell? ⟨w.heap.size, 3, none⟩ = some (.int .i64 (p.st : Int)) ∧ w'.cell? ⟨w.heap.size, 4, none⟩ = some (.int .i64 (p.ln : Int)) ∧ w'.cell? ⟨w.heap.size, 5, none⟩ = some (.int .u32 (p.gen : Int)))
            (first | (refine ⟨?_, ?_, ?_, ?_, ?_, ?_⟩ <;> assumption) | go_keep)
            (first
              | (go_at_call 19; refine (N1.out _).mono ?_; rintro e w14 ⟨o1, rfl, hd, ho, hb⟩; have D14 := Lib.hid hd; have L14 : Hid (Below w5.heap.size w5 w14) := Lib.hid (keepd (drew_below hb) L13.out); obtain ⟨⟨⟨y0, y1, y2, y3⟩, y5, s8⟩, u0, u1, u2, u3, u4, u5, u6⟩ := KX.out _ L14.out; clear hd ho hb)
              | (go_at_call 13; refine (FD.out _ _ D14.out).mono ?_; rintro e w15 ⟨rfl, hb⟩; have L15 : Hid (Below w5.heap.size w5 w15) := Lib.hid (keepd hb L14.out); obtain ⟨⟨⟨x0, x1, x2, x3⟩, x5, r8⟩, c0, c1, c2, c3, c4, c5, c6⟩ := KX.out _ L15.out; clear hb))
          clear z0 z1 z2 z3 z5 t8 v0 v1 v2 v3 v4 v5 v6 y0 y1 y2 y3 y5 s8 u0 u1 u2 u3 u4 u5 u6 D14 N1 FD L13 L14 x0 x1 x2 x3 x5 r8 c0 c1 c2 c3 c4 c5 c6
          go_wp2_with fail
          refine (NR.out _).mono ?_
          rintro e w16 ⟨rfl, hb⟩
          have L16 : Hid (Below w5.heap.size w5 w16) := Lib.hid (keepd hb L15.out)
          obtain ⟨-, c0, c1, c2, c3, c4, c5, c6⟩ := KX.out _ L16.out
          clear hb NR L15 c0 c1 c2 c3 c4 c6
          obtain ⟨E2, hE2⟩ : ∃ E, E = nextE p.gen := ⟨_, rfl⟩
          have hoth : (E2 = 165) ∨ (E2 = 1 ∧ p.gen = 4294967295) := by
            rw [hE2]
            unfold nextE
            by_cases e : p.gen = 4294967295
            · exact .inr ⟨by rw [if_pos e], e⟩
            · exact .inl (by rw [if_neg e])
          rw [← hE2]
          clear hE2
          obtain ⟨gn, hgn⟩ : ∃ gn, gn = p.gen := ⟨_, rfl⟩
          rw [← hgn] at hoth c5
          clear hgn
          rcases CMP.out with ⟨-, q1, q2⟩ | ⟨-, q1, q2⟩ <;> rcases hoth with q3 | ⟨q3, q4⟩
          all_goals
            subst q2
            subst q3
            try subst q4
            go_wp2_with (first
              | (go_at_call 6; refine (AL.out _).mono ?_; rintro e w17 ⟨rfl, hb⟩; have L17 : Hid (Below w5.heap.size w5 w17) := Lib.hid (keepd hb L16.out); clear hb)
              | (go_at_call 21; refine (NA.out _).mono ?_; rintro e w18 ⟨rfl, hb⟩; have L18 : Hid (Below w5.heap.size w5 w18) := Lib.hid (keepd hb L17.out); clear hb)
              | (go_at_call 22; refine (NW.out _).mono ?_; rintro e w19 ⟨rfl, hb⟩; have L19 : Hid (Below w5.heap.size w5 w19) := Lib.hid (keepd hb L18.out); clear hb)
              | (go_at_call 23; refine (NM.out _).mono ?_; rintro e w20 ⟨rfl, hb⟩; have L20 : Hid (Below w5.heap.size w5 w20) := Lib.hid (keepd hb L19.out); clear hb)
              | (go_at_call 24; refine (NS.out _).mono ?_; rintro e w21 ⟨rfl, hb⟩; have L21 : Hid (Below w5.heap.size w5 w21) := Lib.hid (keepd hb L20.out); clear hb)
              | (go_at_call 25; refine (NL.out _).mono ?_; rintro e w22 ⟨rfl, rfl⟩)
              | (go_at_call 26; refine (NH.out _).mono ?_; rintro e w22 ⟨rfl, rfl⟩)
              | (go_at_call 14; refine (NI.out _).mono ?_; rintro e w22 ⟨rfl, rfl⟩)
              | (go_at_call 27; refine (NE.out _).mono ?_; rintro e w22 ⟨rfl, rfl⟩))
            go_ret
            exact ⟨rfl, keepd (keepd L21.out B5.out) HB.out⟩
        | false =>
          obtain ⟨g1, g2, g3, g4, g5, g6, g7, g8, g9, g10, g11, g12, g13⟩ := KEEPN.out
          have j0 := g4 rfl
          have hRQ : R < Q := by rw [g7]; exact Nat.mod_lt _ (by omega)
          have s1 : (Q : Int) ≠ 0 := by omega
          have hw2 : IntKind.i64.wrap ((p.N : Int) + 12) = (n1 : Int) := by rw [IntWalk.i64_in _ (by omega)]; omega
          have hw3 : (n1 : Int) / 13 = (P : Int) := by omega
          have r1 : IntKind.i64.wrap (64 * (p.st : Int)) = (A : Int) := by rw [IntWalk.i64_in _ (by omega)]; omega
          have r2 : IntKind.i64.wrap ((P : Int) + 1) = (J1 : Int) := by rw [IntWalk.i64_in _ (by omega)]; omega
          have r3 : IntKind.i64.wrap (64 * (J1 : Int)) = (Q : Int) := by rw [IntWalk.i64_in _ (by omega)]; omega
          have r4 : (t : Int) % (Q : Int) = (R : Int) := by rw [g7]; exact (Int.natCast_emod t Q).symm
          have r4b : (t : Int).tmod (Q : Int) = (R : Int) := by rw [Int.tmod_eq_emod_of_nonneg (by omega)]; exact r4
          have r5 : IntKind.i64.wrap ((A : Int) + (R : Int)) = (K : Int) := by rw [IntWalk.i64_in _ (by omega)]; omega
          have r15 : wrap64 (P : Int) = (P : Int) := by unfold wrap64; omega
          have r6 : IntKind.i64.wrap (t : Int) = (t : Int) := IntWalk.i64_in _ (by omega)
          have r9 : ((Q : Int) != 0) = true := by simpa using s1
          have r10 : (Q != 0) = true := by simpa using s1
          clear KEEPN g1 g2 g3 g4 g5 g6 g7 g8 g9 g10 g11 g12 g13 j0 hRQ
          go_upto_region 16 with fail
          go_quiet (fail)
          generalize hW7 : w6.drewN nq = w7
          have K7 : Hid (Below w5.heap.size w5 w7) := Lib.hid (by rw [← hW7]; exact below_drewN K6.out nq)
          clear hW7 hw2 hw3 r1 r4 r4b r5 r6 r2 r3 r9 r10 r15 s1 x0 x1 x2 x3 x5 r8 c0 c1 c2 c3 c4 c5 c6
          obtain ⟨⟨⟨x0, x1, x2, x3⟩, x5, r8⟩, c0, c1, c2, c3, c4, c5, c6⟩ := KX.out _ K7.out
          clear x1 x2 x3 x5 r8 c0 c1 c2 c3 c4 c5 c6
          go_wp2_with fail
          refine (BY.out _ K7.out).mono ?_
          rintro e w8 ⟨rfl, rfl⟩
          clear x0 BY
          obtain ⟨ho1, ho2⟩ := HO.out
          have hcv := str_turn w7 f hy
          go_upto_region 18 with fail
          go_region
          generalize hW9 : (w7.alloc (.cells #[.int .u8 (f : Int)] 5)).drew = w9
          have K9 : Hid (Below w5.heap.size w5 w9) := Lib.hid (by rw [← hW9]; exact (K7.out.alloc K7.out.size _).drew)
          clear hW9 hcv ho1 ho2 hss hep heq hTe K0 K1 K2 K3 K4 hy
          obtain ⟨⟨⟨x0, x1, x2, x3⟩, x5, r8⟩, c0, c1, c2, c3, c4, c5, c6⟩ := KX.out _ K9.out
          go_upto_region 19 with fail
          go_region_held3 (fun w' => w'.cell? ⟨X, 1, none⟩ = some (.int .i64 (p.a : Int)) ∧ w'.cell? ⟨X, 2, none⟩ = some (.int .i64 (p.n : Int)) ∧ w'.cell? ⟨X, 3, none⟩ = some (.int .i64 (p.g : Int)) ∧ w'.cell? ⟨w.heap.size, 3, none⟩ = some (.int .i64 (p.st : Int)) ∧ w'.cell? ⟨w.heap.size, 4, none⟩ = some (.int .i64 (p.ln : Int)) ∧ w'.cell? ⟨w.heap.size, 5, none⟩ = some (.int .u32 (p.gen : Int)))
            (first | (refine ⟨?_, ?_, ?_, ?_, ?_, ?_⟩ <;> assumption) | go_keep)
            (first
              | (go_at_call 18; refine (LD.out _).mono ?_; rintro e w10 ⟨o, rfl, hd, ho, hb⟩; have D10 := Lib.hid hd; have O10 : Hid (∀ j, o.fp j → w5.heap.size ≤ j) := Lib.hid fun j hj => Nat.le_trans K9.out.size (ho j hj); have L10 : Hid (Below w5.heap.size w5 w10) := Lib.hid (keepd (drew_below hb) K9.out); obtain ⟨⟨⟨y0, y1, y2, y3⟩, y5, s8⟩, u0, u1, u2, u3, u4, u5, u6⟩ := KX.out _ L10.out; clear hd ho hb)
              | (go_at_call 13; refine (TU.out _ L10.out _ D10.out O10.out).mono ?_; rintro e w11 ⟨v, rfl, hb⟩; have L11 : Hid (Below w5.heap.size w5 w11) := hb; obtain ⟨⟨⟨z0, z1, z2, z3⟩, z5, t8⟩, v0, v1, v2, v3, v4, v5, v6⟩ := KX.out _ L11.out; clear hb))
          clear x0 x1 x2 x3 x5 r8 c0 c1 c2 c3 c4 c5 c6 y0 y1 y2 y3 y5 s8 u0 u1 u2 u3 u4 u5 u6 D10 O10 LD TU K9
          have gw := GW.out
          go_upto_region 20 with fail
          go_region_held3 (fun w' => w'.cell? ⟨X, 0, none⟩ = some (.pointer (some ⟨dp, 0, none⟩)) ∧ w'.cell? ⟨X, 1, none⟩ = some (.int .i64 (p.a : Int)) ∧ w'.cell? ⟨X, 2, none⟩ = some (.int .i64 (p.n : Int)) ∧ w'.cell? ⟨X, 3, none⟩ = some (.int .i64 (p.g : Int)) ∧ w'.cell? ⟨w.heap.size, 3, none⟩ = some (.int .i64 (p.st : Int)) ∧ w'.cell? ⟨w.heap.size, 4, none⟩ = some (.int .i64 (p.ln : Int)) ∧ w'.cell? ⟨w.heap.size, 5, none⟩ = some (.int .u32 (p.gen : Int)))
            (first | (refine ⟨?_, ?_, ?_, ?_, ?_, ?_, ?_⟩ <;> assumption) | go_keep)
            (first
              | (go_at_call 13; refine (OT.out _ L11.out.drew).mono ?_; rintro e w12 ⟨rfl, hb⟩; have L12 : Hid (Below w5.heap.size w5 w12) := Lib.hid (keepd hb L11.out.drew); obtain ⟨⟨⟨x0, x1, x2, x3⟩, x5, r8⟩, c0, c1, c2, c3, c4, c5, c6⟩ := KX.out _ L12.out; clear hb))
          clear z0 z1 z2 z3 z5 t8 v0 v1 v2 v3 v4 v5 v6 gw OT L11
          go_upto_region 21 with fail
          go_region_held3 (fun w' => w'.cell? ⟨X, 1, none⟩ = some (.int .i64 (p.a : Int)) ∧ w'.cell? ⟨X, 2, none⟩ = some (.int .i64 (p.n : Int)) ∧ w'.cell? ⟨X, 3, none⟩ = some (.int .i64 (p.g : Int)) ∧ w'.cell? ⟨w.heap.size, 3, none⟩ = some (.int .i64 (p.st : Int)) ∧ w'.cell? ⟨w.heap.size, 4, none⟩ = some (.int .i64 (p.ln : Int)) ∧ w'.cell? ⟨w.heap.size, 5, none⟩ = some (.int .u32 (p.gen : Int)))
            (first | (refine ⟨?_, ?_, ?_, ?_, ?_, ?_⟩ <;> assumption) | go_keep)
            (first
              | (go_at_call 13; refine (ND.out _).mono ?_; rintro e w13 ⟨rfl, hb⟩; have L13 : Hid (Below w5.heap.size w5 w13) := Lib.hid (keepd hb L12.out.drew); obtain ⟨⟨⟨z0, z1, z2, z3⟩, z5, t8⟩, v0, v1, v2, v3, v4, v5, v6⟩ := KX.out _ L13.out; clear hb))
          clear x0 x1 x2 x3 x5 r8 c0 c1 c2 c3 c4 c5 c6 ND L12
          go_upto_region 22 with fail
          go_region_held3 (fun w' => w'.cell? ⟨X, 1, none⟩ = some (.int .i64 (p.a : Int)) ∧ w'.cell? ⟨X, 2, none⟩ = some (.int .i64 (p.n : Int)) ∧ w'.cell? ⟨X, 3, none⟩ = some (.int .i64 (p.g : Int)) ∧ w'.cell? ⟨w.heap.size, 3, none⟩ = some (.int .i64 (p.st : Int)) ∧ w'.cell? ⟨w.heap.size, 4, none⟩ = some (.int .i64 (p.ln : Int)) ∧ w'.cell? ⟨w.heap.size, 5, none⟩ = some (.int .u32 (p.gen : Int)))
            (first | (refine ⟨?_, ?_, ?_, ?_, ?_, ?_⟩ <;> assumption) | go_keep)
            (first
              | (go_at_call 19; refine (N1.out _).mono ?_; rintro e w14 ⟨o1, rfl, hd, ho, hb⟩; have D14 := Lib.hid hd; have L14 : Hid (Below w5.heap.size w5 w14) := Lib.hid (keepd (drew_below hb) L13.out); obtain ⟨⟨⟨y0, y1, y2, y3⟩, y5, s8⟩, u0, u1, u2, u3, u4, u5, u6⟩ := KX.out _ L14.out; clear hd ho hb)
              | (go_at_call 13; refine (FD.out _ _ D14.out).mono ?_; rintro e w15 ⟨rfl, hb⟩; have L15 : Hid (Below w5.heap.size w5 w15) := Lib.hid (keepd hb L14.out); obtain ⟨⟨⟨x0, x1, x2, x3⟩, x5, r8⟩, c0, c1, c2, c3, c4, c5, c6⟩ := KX.out _ L15.out; clear hb))
          clear z0 z1 z2 z3 z5 t8 v0 v1 v2 v3 v4 v5 v6 y0 y1 y2 y3 y5 s8 u0 u1 u2 u3 u4 u5 u6 D14 N1 FD L13 L14 x0 x1 x2 x3 x5 r8 c0 c1 c2 c3 c4 c5 c6
          go_wp2_with fail
          refine (NR.out _).mono ?_
          rintro e w16 ⟨rfl, hb⟩
          have L16 : Hid (Below w5.heap.size w5 w16) := Lib.hid (keepd hb L15.out)
          obtain ⟨-, c0, c1, c2, c3, c4, c5, c6⟩ := KX.out _ L16.out
          clear hb NR L15 c0 c1 c2 c3 c4 c6
          obtain ⟨E2, hE2⟩ : ∃ E, E = nextE p.gen := ⟨_, rfl⟩
          have hoth : (E2 = 165) ∨ (E2 = 1 ∧ p.gen = 4294967295) := by
            rw [hE2]
            unfold nextE
            by_cases e : p.gen = 4294967295
            · exact .inr ⟨by rw [if_pos e], e⟩
            · exact .inl (by rw [if_neg e])
          rw [← hE2]
          clear hE2
          obtain ⟨gn, hgn⟩ : ∃ gn, gn = p.gen := ⟨_, rfl⟩
          rw [← hgn] at hoth c5
          clear hgn
          rcases CMP.out with ⟨-, q1, q2⟩ | ⟨-, q1, q2⟩ <;> rcases hoth with q3 | ⟨q3, q4⟩
          all_goals
            subst q2
            subst q3
            try subst q4
            go_wp2_with (first
              | (go_at_call 6; refine (AL.out _).mono ?_; rintro e w17 ⟨rfl, hb⟩; have L17 : Hid (Below w5.heap.size w5 w17) := Lib.hid (keepd hb L16.out); clear hb)
              | (go_at_call 21; refine (NA.out _).mono ?_; rintro e w18 ⟨rfl, hb⟩; have L18 : Hid (Below w5.heap.size w5 w18) := Lib.hid (keepd hb L17.out); clear hb)
              | (go_at_call 22; refine (NW.out _).mono ?_; rintro e w19 ⟨rfl, hb⟩; have L19 : Hid (Below w5.heap.size w5 w19) := Lib.hid (keepd hb L18.out); clear hb)
              | (go_at_call 23; refine (NM.out _).mono ?_; rintro e w20 ⟨rfl, hb⟩; have L20 : Hid (Below w5.heap.size w5 w20) := Lib.hid (keepd hb L19.out); clear hb)
              | (go_at_call 24; refine (NS.out _).mono ?_; rintro e w21 ⟨rfl, hb⟩; have L21 : Hid (Below w5.heap.size w5 w21) := Lib.hid (keepd hb L20.out); clear hb)
              | (go_at_call 25; refine (NL.out _).mono ?_; rintro e w22 ⟨rfl, rfl⟩)
              | (go_at_call 26; refine (NH.out _).mono ?_; rintro e w22 ⟨rfl, rfl⟩)
              | (go_at_call 14; refine (NI.out _).mono ?_; rintro e w22 ⟨rfl, rfl⟩)
              | (go_at_call 27; refine (NE.out _).mono ?_; rintro e w22 ⟨rfl, rfl⟩))
            go_ret
            exact ⟨rfl, keepd (keepd L21.out B5.out) HB.out⟩
end So
end Go.Proofs.YtbmabcddciibfaaGreat
namespace Go.Proofs.YtbmabcddciibfaaGreat
namespace So
open Go.RowKit Go.ChangeShapes Go.WideShapes Go.Deep Go.WideElems Go.Maps
set_option linter.unusedVariables false
set_option maxRecDepth 100000
section
variable {H : Type} {enc : TypeId × Value → H} {w : World} {spare : Nat → Bool} {held : Bool}
theorem cells_case14 : Tryz.prog.cellsOf 29 = 7 := by kernel_rfl
theorem cells_super14 : Tryz.prog.cellsOf 23 = 3 := by kernel_rfl
theorem cells_ext14 : Tryz.prog.cellsOf 25 = 2 := by kernel_rfl
theorem cells_u3214 : Tryz.prog.cellsOf 26 = 1 := by kernel_rfl
theorem cells_acts14 : Tryz.prog.cellsOf 27 = 1 := by kernel_rfl
theorem three_ints {n : Nat} {v0 v1 v2 : Value} {y : DataW H × List MemPlace} (h : DataW.trod enc Tryz.prog w 0 spare held n 23 [v0, v1, v2] = some y) : ∃ a b c, v0 = .int .i64 a ∧ v1 = .int .i64 b ∧ v2 = .int .i64 c := by
  obtain ⟨xs, m, _, _, _, hxl, hf⟩ := DataW.trod_struct Tryz.underlying23 h
  have hxl : xs.length = 3 := hxl
  have f0 : DataW.trod enc Tryz.prog w 0 spare held m 3 ((([v0, v1, v2] : List Value).drop 0).take (Tryz.prog.cellsOf 3)) = xs[0]? := hf 0 _ rfl
  have f1 : DataW.trod enc Tryz.prog w 0 spare held m 3 ((([v0, v1, v2] : List Value).drop 1).take (Tryz.prog.cellsOf 3)) = xs[1]? := hf 1 _ rfl
  have f2 : DataW.trod enc Tryz.prog w 0 spare held m 3 ((([v0, v1, v2] : List Value).drop 2).take (Tryz.prog.cellsOf 3)) = xs[2]? := hf 2 _ rfl
  rw [Dsk.cells_int, List.getElem?_eq_getElem (by omega)] at f0 f1 f2
  obtain ⟨a, e0, _, w0⟩ := DataW.trod_int Tryz.underlying3 f0
  obtain ⟨b, e1, _, w1⟩ := DataW.trod_int Tryz.underlying3 f1
  obtain ⟨c, e2, _, w2⟩ := DataW.trod_int Tryz.underlying3 f2
  exact ⟨a, b, c, by simpa using e0, by simpa using e1, by simpa using e2⟩
theorem two_ints {n : Nat} {v0 v1 : Value} {y : DataW H × List MemPlace} (h : DataW.trod enc Tryz.prog w 0 spare held n 25 [v0, v1] = some y) : ∃ a b, v0 = .int .i64 a ∧ v1 = .int .i64 b ∧ (Lit.int .i64 a).wf = true ∧ (Lit.int .i64 b).wf = true := by
  obtain ⟨xs, m, _, _, _, hxl, hf⟩ := DataW.trod_struct Tryz.underlying25 h
  have hxl : xs.length = 2 := hxl
  have f0 : DataW.trod enc Tryz.prog w 0 spare held m 3 ((([v0, v1] : List Value).drop 0).take (Tryz.prog.cellsOf 3)) = xs[0]? := hf 0 _ rfl
  have f1 : DataW.trod enc Tryz.prog w 0 spare held m 3 ((([v0, v1] : List Value).drop 1).take (Tryz.prog.cellsOf 3)) = xs[1]? := hf 1 _ rfl
  rw [Dsk.cells_int, List.getElem?_eq_getElem (by omega)] at f0 f1
  obtain ⟨a, e0, _, w0⟩ := DataW.trod_int Tryz.underlying3 f0
  obtain ⟨b, e1, _, w1⟩ := DataW.trod_int Tryz.underlying3 f1
  exact ⟨a, b, by simpa using e0, by simpa using e1, w0, w1⟩
theorem u32_wf {n : Int} (h : (Lit.int .u32 n).wf = true) : ∃ k : Nat, n = (k : Int) ∧ k < 4294967296 := by
  simp [Lit.wf, IntKind.min, IntKind.max, IntKind.signed, IntKind.bits] at h
  exact ⟨n.toNat, by omega, by omega⟩
structure CaseIn (w : World) (s m : Int) (gen : Nat) (la : Option Addr) (xs : List (Ac × Al)) : Prop where
  s : (Lit.int .i64 s).wf = true
  m : (Lit.int .i64 m).wf = true
  gen : gen < 4294967296
  len : xs.length ≤ 9223372036854775807
  acts : Acts w la xs
theorem case_open {r : Reach} {b0 : Nat} {v : Value} {d : DataW H} {p : List MemPlace} (hv : Value.okWide Tryz.prog w r b0 29 v) (h : DataW.Trod enc Tryz.prog w 0 spare held 29 v d p) :
    ∃ (a n g s m : Int) (gen : Nat) (la : Option Addr) (xs : List (Ac × Al)) (lc : Nat), v = .agg #[.int .i64 a, .int .i64 n, .int .i64 g, .int .i64 s, .int .i64 m, .int .u32 (gen : Int), .slice la xs.length lc] ∧ CaseIn w s m gen la xs := by
  obtain ⟨cs, rfl, hsz⟩ := okWide_struct Tryz.underlying29 hv
  obtain ⟨fuel, hf0⟩ := h
  have hl : cs.toList.length = 7 := by rw [Array.length_toList]; exact hsz.trans cells_case14
  obtain ⟨l⟩ := cs
  have hl : l.length = 7 := hl
  match l, hl with
  | [v0, v1, v2, v3, v4, v5, v6], _ =>
    have hf0 : DataW.trod enc Tryz.prog w 0 spare held fuel 29 [v0, v1, v2, v3, v4, v5, v6] = some _ := hf0
    obtain ⟨ys, k, _, _, _, hyl, hf⟩ := DataW.trod_struct Tryz.underlying29 hf0
    have hyl : ys.length = 4 := hyl
    have f0 : DataW.trod enc Tryz.prog w 0 spare held k 23 ((([v0, v1, v2, v3, v4, v5, v6] : List Value).drop 0).take (Tryz.prog.cellsOf 23)) = ys[0]? := hf 0 _ rfl
    have f1 : DataW.trod enc Tryz.prog w 0 spare held k 25 ((([v0, v1, v2, v3, v4, v5, v6] : List Value).drop 3).take (Tryz.prog.cellsOf 25)) = ys[1]? := hf 1 _ rfl
    have f2 : DataW.trod enc Tryz.prog w 0 spare held k 26 ((([v0, v1, v2, v3, v4, v5, v6] : List Value).drop 5).take (Tryz.prog.cellsOf 26)) = ys[2]? := hf 2 _ rfl
    have f3 : DataW.trod enc Tryz.prog w 0 spare held k 27 ((([v0, v1, v2, v3, v4, v5, v6] : List Value).drop 6).take (Tryz.prog.cellsOf 27)) = ys[3]? := hf 3 _ rfl
    rw [cells_super14, List.getElem?_eq_getElem (by omega)] at f0
    rw [cells_ext14, List.getElem?_eq_getElem (by omega)] at f1
    rw [cells_u3214, List.getElem?_eq_getElem (by omega)] at f2
    rw [cells_acts14, List.getElem?_eq_getElem (by omega)] at f3
    obtain ⟨a, n, g, rfl, rfl, rfl⟩ := three_ints f0
    obtain ⟨s, m, rfl, rfl, ws, wm⟩ := two_ints f1
    obtain ⟨gen, e2, _, w2⟩ := DataW.trod_int Tryz.underlying26 f2
    obtain ⟨la, xs, lc, e3, hn, hA⟩ := view_acts f3
    have e2 : v5 = .int .u32 gen := by simpa using e2
    obtain ⟨G, rfl, hG⟩ := u32_wf w2
    exact ⟨a, n, g, s, m, G, la, xs, lc, by rw [e2, e3], ⟨ws, wm, hG, hn, hA⟩⟩
end
end So
end Go.Proofs.YtbmabcddciibfaaGreat
