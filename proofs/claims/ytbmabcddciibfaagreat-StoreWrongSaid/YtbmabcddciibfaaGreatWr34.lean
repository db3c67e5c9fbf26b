/- Part 34 of the contracts and of the plain mathematics that the proof of the law rests on: StoFits, HeadRCode, RefSumMath. -/
import Derived.Test.YtbmabcddciibfaaGreatWr10
import Derived.Test.YtbmabcddciibfaaGreatWr15
import Derived.Test.YtbmabcddciibfaaGreatWr32
namespace Go.Proofs.YtbmabcddciibfaaGreat
namespace So
open Go.RowKit
set_option linter.unusedVariables false
set_option maxRecDepth 100000
theorem rcop_lt {w : World} {a : Option Addr} {l : List (Int × List UInt8)} (h : RCop w a l) : ∀ g off, l ≠ [] → a = some ⟨g, off, none⟩ → g < w.heap.size := fun g off hne e => by
  obtain ⟨b, o, e2, hl, -⟩ := h hne
  rw [e] at e2
  injection e2 with e2
  injection e2 with e2
  omega
theorem rd_lt {w : World} {a : Option Addr} {l : List Int} (h : Tb.Rd w a l) : ∀ g off, l ≠ [] → a = some ⟨g, off, none⟩ → g < w.heap.size := fun g off hne e => by
  obtain ⟨b, o, e2, hl, -⟩ := h hne
  rw [e] at e2
  injection e2 with e2
  injection e2 with e2
  omega
def caseV (p : Pa) (lv : Value) : Value := .agg #[.int .i64 (p.a : Int), .int .i64 (p.n : Int), .int .i64 (p.g : Int), .int .i64 (p.st : Int), .int .i64 (p.ln : Int), .int .u32 (p.gen : Int), lv]
theorem sact_any {w0 w : World} {y : Bo} {p : Pa} {st : Dm.St} {M : Ms} (h : Both w y p M.inv st M.tab M) (hp : p.Ok) (hfit : Fit p M) (hst : Stand p (Dm.one st) M) (hP : st.P.length ≤ 68719476736) (hdead : st.dead = false) (hlen : st.S.length = p.a) (x : Ac) (l : Al)
    (hin : AcIn w0 x l) (hb : Below w0.heap.size w0 w) (hlow : ∀ k, y.fp k → w0.heap.size ≤ k) (hcs : x.cs.length ≤ 1048576) (hrm : x.rm.length ≤ 1048576) (hd : x.d.length ≤ 137438953472) (lv : Value) :
    Calls Tryz.prog 8 #[.pointer (some ⟨y.X, 0, none⟩), caseV p lv, .agg (x.vals l).toArray] w (ActEnd y p st M x w) := by
  have hc : x.k % 6 = 0 ∨ x.k % 6 = 1 ∨ x.k % 6 = 2 ∨ x.k % 6 = 3 ∨ x.k % 6 = 4 ∨ x.k % 6 = 5 := by omega
  rcases hc with hk | hk | hk | hk | hk | hk
  · exact sact0 h hp hfit hP x hk hin.k l.ca l.cc hcs (hin.cr.below hb) (fun g off hne e hf => by have := hlow _ hf; have := rcop_lt hin.cr g off hne e; omega) (fun c hc => (hin.csd c hc).1) lv _ _
  · exact sact1 h hp hfit hP x hk hin.k hin.o hin.f hd lv _ _ _
  · exact sact2 h hp hfit hP x hk hin.k l.ra l.rc hrm (hin.rr.below hb) (fun g off hne e hf => by have := hlow _ hf; have := rd_lt hin.rr g off hne e; omega) hin.rmd lv _ _
  · exact sact3 h hp hfit hP hdead hlen x hk hin.k hin.o hin.f lv _ _ _
  · exact sact4 h hp hfit hP x hk hin.k lv _ _ _
  · exact sact5 h hp hfit hst hP hdead hlen x hk hin.k lv _ _ _
structure FitA (x : Ac) : Prop where
  d : x.d.length ≤ 1200
  cs : x.cs.length ≤ 30
  rm : x.rm.length ≤ 30
def FitEnd (a : Int) (xs : List (Ac × Al)) (w : World) (e : Ending) (w' : World) : Prop := ∃ res, e = .returned (.bool res) ∧ Below w.heap.size w w' ∧ (res = true → (∀ x ∈ xs, FitA x.1) ∧ xs.length ≤ 24 ∧ a ≤ 400)
theorem FitEnd.no {a : Int} {xs : List (Ac × Al)} {w w' : World} (hb : Below w.heap.size w w') : FitEnd a xs w (.returned (.bool false)) w' := ⟨false, rfl, hb, fun h => by cases h⟩
structure FitAt (xs : List (Ac × Al)) (k : Nat) : Prop where
  le : k ≤ xs.length
  all : ∀ i x, i < k → xs[i]? = some x → FitA x.1
set_option maxHeartbeats 4000000 in
theorem sfits_any {w : World} {la : Option Addr} {xs : List (Ac × Al)} (a n g s m : Int) (gen : Nat) (N lc : Nat) (hN : N = xs.length) (hN2 : N ≤ 9223372036854775807) (h : Acts w la xs) :
    Calls Tryz.prog 5 #[.agg #[.int .i64 a, .int .i64 n, .int .i64 g, .int .i64 s, .int .i64 m, .int .u32 (gen : Int), .slice la N lc]] w (FitEnd a xs w) := by
  obtain ⟨W0, hW0⟩ : ∃ W0, w.alloc (.cells #[.int .i64 a, .int .i64 n, .int .i64 g, .int .i64 s, .int .i64 m, .int .u32 (gen : Int), .slice la N lc] 29) = W0 := ⟨_, rfl⟩
  have hr := heap_alloc_new w (.cells #[.int .i64 a, .int .i64 n, .int .i64 g, .int .i64 s, .int .i64 m, .int .u32 (gen : Int), .slice la N lc] 29)
  have hB : Below w.heap.size w W0 := by rw [← hW0]; exact (Below.refl _ _).alloc (Nat.le_refl _) _
  rw [hW0] at hr
  have c0 : W0.cell? ⟨w.heap.size, 0, none⟩ = some (.int .i64 a) := by rw [cell_of_row _ _ _ _ _ _ hr]; rfl
  have c6 : W0.cell? ⟨w.heap.size, 6, none⟩ = some (.slice la N lc) := by rw [cell_of_row _ _ _ _ _ _ hr]; rfl
  have HB := Lib.hid hB
  have HN := Lib.hid hN
  have AT : Hid (∀ k x, xs[k]? = some x → ∃ b off, la = some ⟨b, off, none⟩ ∧ W0.cell? ⟨b, off + k * 8 + 4, none⟩ = some (.string (Om.B x.1.d)) ∧ W0.cell? ⟨b, off + k * 8 + 5, none⟩ = some (.slice x.2.ca x.1.cs.length x.2.cc) ∧ W0.cell? ⟨b, off + k * 8 + 6, none⟩ = some (.slice x.2.ra x.1.rm.length x.2.rc) ∧
      x.1.cs.length ≤ 9223372036854775807 ∧ ∀ i c, x.1.cs[i]? = some c → ∃ b2 off2, x.2.ca = some ⟨b2, off2, none⟩ ∧ W0.cell? ⟨b2, off2 + i * 2 + 1, none⟩ = some (.string (Om.B c.2))) := Lib.hid fun k x hx => by
    obtain ⟨b, off, e, hlt, hall⟩ := h (fun e => by rw [e] at hx; simp at hx)
    obtain ⟨hc, hin⟩ := hall k x hx
    have up : ∀ q v, w.cell? ⟨b, q, none⟩ = some v → W0.cell? ⟨b, q, none⟩ = some v := fun q v hv => (hB.cell (p := ⟨b, q, none⟩) hlt).trans hv
    refine ⟨b, off, e, up _ _ (hc 4 _ rfl), up _ _ (hc 5 _ rfl), up _ _ (hc 6 _ rfl), hin.cs, fun i c hi => ?_⟩
    obtain ⟨b2, off2, e2, hlt2, hall2⟩ := hin.cr (fun e => by rw [e] at hi; simp at hi)
    exact ⟨b2, off2, e2, (hB.cell (p := ⟨b2, off2 + i * 2 + 1, none⟩) hlt2).trans (hall2 i c hi).2⟩
  have NO : Hid (FitEnd a xs w (.returned (.bool false)) W0) := Lib.hid (FitEnd.no hB)
  have YES : Hid (FitAt xs N → N ≤ 24 → a ≤ 400 → FitEnd a xs w (.returned (.bool true)) W0) := Lib.hid fun hf h24 ha => ⟨true, rfl, hB, fun _ => ⟨fun x hx => by
    obtain ⟨i, hi⟩ := List.getElem?_of_mem hx
    exact hf.all i x (by rw [hN]; exact (List.getElem?_eq_some_iff.1 hi).1) hi, by omega, ha⟩⟩
  clear h hr hB hN
  go_enter Tryz.func5, Tryz.ntmps5
  go_wp2_with fail
  clear hW0
  go_loopw [3] (fun i wr => ∃ k : Nat, i = .int .i64 (k : Int) ∧ k ≤ N ∧ k ≤ 25 ∧ wr = W0 ∧ Hid (FitAt xs k)) (fun i _ => N - (Lib.intOf i).toNat)
  case atStart => exact ⟨0, rfl, Nat.zero_le _, Nat.zero_le _, rfl, Lib.hid ⟨Nat.zero_le _, fun i x hi => absurd hi (by omega)⟩⟩
  case round =>
    obtain ⟨k, rfl, hk, hk25, rfl, hat⟩ := hrel
    by_cases hlt : k < N
    · have d1 : decide ((k : Int) < (N : Int)) = true := by simp; omega
      have d2 : decide (k < N) = true := by simp; omega
      by_cases h24 : k ≤ 24
      · have d3 : decide ((k : Int) ≤ 24) = true := by simp; omega
        have d4 : decide (k ≤ 24) = true := by simp; omega
        have b1 : (0 : Int) ≤ (k : Int) := by omega
        have b2 : (k : Int) < (N : Int) := by omega
        have hw1 : IntKind.i64.wrap ((k : Int) + 1) = ((k + 1 : Nat) : Int) := by rw [IntWalk.i64_in _ (by omega)]; rfl
        obtain ⟨x, hx⟩ : ∃ x, xs[k]? = some x := ⟨xs[k]'(by have := HN.out; omega), List.getElem?_eq_getElem _⟩
        obtain ⟨b, off, hla, g4, g5, g6, hcl, hcp⟩ := AT.out k x hx
        subst hla
        have HCP := Lib.hid hcp
        obtain ⟨D, hD⟩ : ∃ D, D = Om.B x.1.d := ⟨_, rfl⟩
        obtain ⟨L, hL⟩ : ∃ L, L = x.1.d.length := ⟨_, rfl⟩
        have hs : D.size = L := by rw [hD, Om.B_size, hL]
        rw [← hD] at g4
        obtain ⟨C, hC⟩ : ∃ C, C = x.1.cs.length := ⟨_, rfl⟩
        obtain ⟨R, hR⟩ : ∃ R, R = x.1.rm.length := ⟨_, rfl⟩
        rw [← hC] at g5 hcl
        rw [← hR] at g6
        have HC := Lib.hid hC
        have NX : Hid (L ≤ 1200 → C ≤ 30 → R ≤ 30 → FitAt xs (k + 1)) := Lib.hid fun h1 h2 h3 => ⟨by have := HN.out; omega, fun i z hi hz => by
          by_cases e : i = k
          · rw [e, hx] at hz
            injection hz with hz
            subst hz
            exact ⟨by omega, by omega, by omega⟩
          · exact hat.out.all i z (by omega) hz⟩
        clear hcp hD hL hC hR hx hat
        by_cases k1 : L ≤ 1200
        · have t1 : decide ((1200 : Int) < (L : Int)) = false := by simp; omega
          have t2 : decide (1200 < L) = false := by simp; omega
          by_cases k2 : C ≤ 30
          · have t3 : decide ((30 : Int) < (C : Int)) = false := by simp; omega
            have t4 : decide (30 < C) = false := by simp; omega
            by_cases k3 : R ≤ 30
            · have t5 : decide ((30 : Int) < (R : Int)) = false := by simp; omega
              have t6 : decide (30 < R) = false := by simp; omega
              have FN := Lib.hid (NX.out k1 k2 k3)
              clear NX
              go_wp2_with fail
              go_loopw [4] (fun i ws => ∃ j : Nat, i = .int .i64 (j : Int) ∧ j ≤ C ∧ ws = wr) (fun i _ => C - (Lib.intOf i).toNat)
              case atStart => exact ⟨0, rfl, Nat.zero_le _, rfl⟩
              case round =>
                obtain ⟨j, rfl, hj, rfl⟩ := hrel
                by_cases hjl : j < C
                · have e1 : decide ((j : Int) < (C : Int)) = true := by simp; omega
                  have e2 : decide (j < C) = true := by simp; omega
                  have e3 : (0 : Int) ≤ (j : Int) := by omega
                  have e4 : (j : Int) < (C : Int) := by omega
                  have hw2 : IntKind.i64.wrap ((j : Int) + 1) = ((j + 1 : Nat) : Int) := by rw [IntWalk.i64_in _ (by omega)]; rfl
                  obtain ⟨c, hc⟩ : ∃ c, x.1.cs[j]? = some c := ⟨x.1.cs[j]'(by have := HC.out; omega), List.getElem?_eq_getElem _⟩
                  obtain ⟨b3, off3, hca, gc⟩ := HCP.out j c hc
                  rw [hca] at g5
                  obtain ⟨D2, hD2⟩ : ∃ D2, D2 = Om.B c.2 := ⟨_, rfl⟩
                  rw [← hD2] at gc
                  obtain ⟨L2, hL2⟩ : ∃ L2, D2.size = L2 := ⟨_, rfl⟩
                  clear hc hca hD2
                  by_cases k4 : L2 ≤ 8320
                  · have t7 : decide ((8320 : Int) < (L2 : Int)) = false := by simp; omega
                    have t8 : decide (8320 < L2) = false := by simp; omega
                    go_wp2_with fail
                    go_roundw
                    case rel => exact ⟨j + 1, rfl, by omega, by first | rfl | trivial⟩
                    case measure => simp [Lib.intOf]; omega
                  · have t7 : decide ((8320 : Int) < (L2 : Int)) = true := by simp; omega
                    have t8 : decide (8320 < L2) = true := by simp; omega
                    go_wp2_with fail
                    go_ret
                    exact NO.out
                · obtain rfl : j = C := by omega
                  have e1 : decide ((j : Int) < (j : Int)) = false := by simp
                  have e2 : decide (j < j) = false := by simp
                  go_wp2_with fail
                  go_roundw
                  case rel => exact ⟨k + 1, rfl, by omega, by omega, by first | rfl | trivial, FN⟩
                  case measure => simp [Lib.intOf]; omega
            · have t5 : decide ((30 : Int) < (R : Int)) = true := by simp; omega
              have t6 : decide (30 < R) = true := by simp; omega
              go_wp2_with fail
              go_ret
              exact NO.out
          · have t3 : decide ((30 : Int) < (C : Int)) = true := by simp; omega
            have t4 : decide (30 < C) = true := by simp; omega
            go_wp2_with fail
            go_ret
            exact NO.out
        · have t1 : decide ((1200 : Int) < (L : Int)) = true := by simp; omega
          have t2 : decide (1200 < L) = true := by simp; omega
          go_wp2_with fail
          go_ret
          exact NO.out
      · have d3 : decide ((k : Int) ≤ 24) = false := by simp; omega
        have d4 : decide (k ≤ 24) = false := by simp; omega
        have n1 : decide ((N : Int) ≤ 24) = false := by simp; omega
        have n2 : decide (N ≤ 24) = false := by simp; omega
        go_wp2_with fail
        go_ret
        exact NO.out
    · obtain rfl : k = N := by omega
      have d1 : decide ((k : Int) < (k : Int)) = false := by simp
      have d2 : decide (k < k) = false := by simp
      by_cases h24 : k ≤ 24
      · have n1 : decide ((k : Int) ≤ 24) = true := by simp; omega
        have n2 : decide (k ≤ 24) = true := by simp; omega
        by_cases h4 : a ≤ 400
        · have a1 : decide (a ≤ 400) = true := by simpa using h4
          go_wp2_with fail
          go_ret
          exact YES.out hat.out h24 h4
        · have a1 : decide (a ≤ 400) = false := by simpa using h4
          go_wp2_with fail
          go_ret
          exact NO.out
      · have n1 : decide ((k : Int) ≤ 24) = false := by simp; omega
        have n2 : decide (k ≤ 24) = false := by simp; omega
        go_wp2_with fail
        go_ret
        exact NO.out
end So
end Go.Proofs.YtbmabcddciibfaaGreat
namespace Go.Proofs.YtbmabcddciibfaaGreat
open Go.RowKit
set_option linter.unusedVariables false
theorem rhright_any (g : Nat) (c p : Int) (b : Bool) (w : World) : Calls Tryz.prog 111 #[Hv g c p b] w fun e w' => e = .returned (.bool (Hm.okH g c p)) ∧ Below w.heap.size w w' := by
  have HB : Hid (Below w.heap.size w (w.alloc (.cells #[.int .u32 (g : Int), .int .i64 c, .int .i64 p, .bool b] 105))) := (Below.refl _ w).alloc (Nat.le_refl _) _
  unfold Hv
  by_cases h1 : 1 ≤ g
  · have d1 : decide (1 ≤ (g : Int)) = true := by simp; omega
    by_cases h2 : 1 ≤ c
    · have d2 : decide (1 ≤ c) = true := by simpa using h2
      by_cases h3 : c ≤ 128
      · have d3 : decide (c ≤ 128) = true := by simpa using h3
        by_cases h4 : 1 ≤ p
        · have d4 : decide (1 ≤ p) = true := by simpa using h4
          have hr : Hm.okH g c p = decide (p ≤ 1048576) := by unfold Hm.okH; simp [h1, h2, h3, h4]
          have HR := Lib.hid hr
          clear hr h1 h2 h3 h4
          go_enter Tryz.func111, Tryz.ntmps111
          go_wp2_with fail
          go_ret
          exact ⟨by rw [HR.out]; rfl, HB.out⟩
        · have d4 : decide (1 ≤ p) = false := by simpa using h4
          have hr : Hm.okH g c p = false := by unfold Hm.okH; simp [h4]
          have HR := Lib.hid hr
          clear hr h1 h2 h3 h4
          go_enter Tryz.func111, Tryz.ntmps111
          go_wp2_with fail
          go_ret
          exact ⟨by rw [HR.out]; rfl, HB.out⟩
      · have d3 : decide (c ≤ 128) = false := by simpa using h3
        have hr : Hm.okH g c p = false := by unfold Hm.okH; simp [h3]
        have HR := Lib.hid hr
        clear hr h1 h2 h3
        go_enter Tryz.func111, Tryz.ntmps111
        go_wp2_with fail
        go_ret
        exact ⟨by rw [HR.out]; rfl, HB.out⟩
    · have d2 : decide (1 ≤ c) = false := by simpa using h2
      have hr : Hm.okH g c p = false := by unfold Hm.okH; simp [h2]
      have HR := Lib.hid hr
      clear hr h1 h2
      go_enter Tryz.func111, Tryz.ntmps111
      go_wp2_with fail
      go_ret
      exact ⟨by rw [HR.out]; rfl, HB.out⟩
  · have d1 : decide (1 ≤ (g : Int)) = false := by simp; omega
    have hr : Hm.okH g c p = false := by unfold Hm.okH; simp [h1]
    have HR := Lib.hid hr
    clear hr h1
    go_enter Tryz.func111, Tryz.ntmps111
    go_wp2_with fail
    go_ret
    exact ⟨by rw [HR.out]; rfl, HB.out⟩
theorem flag_any (b : Bool) (w : World) : Calls Tryz.prog 114 #[.bool b] w fun e w' => e = .returned (.int .u64 ((Hm.bit b : Nat) : Int)) ∧ w = w' := by
  cases b with
  | true =>
    go_enter Tryz.func114, Tryz.ntmps114
    go_wp2
    go_ret
    exact ⟨rfl, rfl⟩
  | false =>
    go_enter Tryz.func114, Tryz.ntmps114
    go_wp2
    go_ret
    exact ⟨rfl, rfl⟩
theorem rheads_any (w : World) : Calls Tryz.prog 113 #[] w fun e w' => e = .returned (.slice (some ⟨w.heap.size, 0, none⟩) 4 4) ∧ Row w' w'.heap.size (some ⟨w.heap.size, 0, none⟩) 4 (szs Hm.zs) ∧ Below w.heap.size w w' := by
  have hown : (w.alloc (.cells #[.int .i64 4, .int .i64 2, .int .i64 4, .int .i64 1] 3)).ownsRow w.heap.size 3 1 (.slice (some ⟨w.heap.size, 0, none⟩) 4 4) 4 [.int .i64 4, .int .i64 2, .int .i64 4, .int .i64 1] := World.ownsRow_lit w #[.int .i64 4, .int .i64 2, .int .i64 4, .int .i64 1] 4 (Nat.le_refl _) (by unfold maxLen; omega) rfl
  have hrow : Row (w.alloc (.cells #[.int .i64 4, .int .i64 2, .int .i64 4, .int .i64 1] 3)) (w.alloc (.cells #[.int .i64 4, .int .i64 2, .int .i64 4, .int .i64 1] 3)).heap.size (some ⟨w.heap.size, 0, none⟩) 4 (szs Hm.zs) := Row.own hown (fun i hi => by
    match i, hi with
    | 0, _ => rfl
    | 1, _ => rfl
    | 2, _ => rfl
    | 3, _ => rfl)
  have HB : Hid (Below w.heap.size w (w.alloc (.cells #[.int .i64 4, .int .i64 2, .int .i64 4, .int .i64 1] 3))) := (Below.refl _ w).alloc (Nat.le_refl _) _
  have HR := Lib.hid hrow
  clear hown hrow
  go_enter Tryz.func113, Tryz.ntmps113
  go_wp2
  go_ret
  exact ⟨rfl, HR.out, HB.out⟩
end Go.Proofs.YtbmabcddciibfaaGreat
namespace Go.Proofs.YtbmabcddciibfaaGreat
namespace Cm
theorem steps_add (m n x : Nat) : steps (m + n) x = steps m (steps n x) := by
  induction m with
  | zero => rw [Nat.zero_add]; rfl
  | succ m ih => rw [Nat.add_right_comm, steps, ih]; rfl
theorem step_even (y : Nat) : step (2 * y) = y := by
  unfold step
  rw [if_pos (by omega)]
  omega
theorem steps4 (q : Nat) : steps 4 (16 * q) = q := by
  show step (step (step (step (16 * q)))) = q
  rw [show 16 * q = 2 * (2 * (2 * (2 * q))) by omega, step_even, step_even, step_even, step_even]
theorem split16 (x : Nat) : x = 16 * (x / 16) ^^^ x % 16 := by
  have h := Nat.shiftLeft_add_eq_or_of_lt (a := x / 16) (b := x % 16) (i := 4) (by omega)
  have h2 := Nat.two_pow_add_eq_or_of_lt (i := 4) (b := x % 16) (by omega) (x / 16)
  apply Nat.eq_of_testBit_eq
  intro i
  rw [Nat.testBit_xor]
  by_cases hi : i < 4
  · have e1 : (16 * (x / 16)).testBit i = false := by
      rw [show 16 * (x / 16) = 2 ^ 4 * (x / 16) by omega, Nat.testBit_two_pow_mul]
      simp; omega
    have e2 : (x % 16).testBit i = x.testBit i := by
      rw [show x % 16 = x % 2 ^ 4 by rfl, Nat.testBit_mod_two_pow]
      simp [hi]
    rw [e1, e2, Bool.false_xor]
  · have e1 : (16 * (x / 16)).testBit i = x.testBit i := by
      rw [show 16 * (x / 16) = 2 ^ 4 * (x / 2 ^ 4) by omega, Nat.testBit_two_pow_mul, Nat.testBit_div_two_pow]
      rw [show i - 4 + 4 = i by omega]
      simp; omega
    have e2 : (x % 16).testBit i = false := by
      rw [show x % 16 = x % 2 ^ 4 by rfl, Nat.testBit_mod_two_pow]
      simp [hi]
    rw [e1, e2, Bool.xor_false]
theorem half_steps (x : Nat) : half x = steps 4 x := by
  unfold half tbl
  conv => rhs; rw [split16 x, steps_xor, steps4]
theorem halves2 (x : Nat) : halves 2 x = steps 8 x := by
  show half (half x) = _
  rw [half_steps, half_steps, ← steps_add]
def obit (l : List UInt8) (j : Nat) : Bool := (l.getD (j / 8) 0).toNat.testBit (j % 8)
theorem obit_out (l : List UInt8) (j : Nat) (h : 8 * l.length ≤ j) : obit l j = false := by
  unfold obit
  rw [List.getD_eq_getElem?_getD, List.getElem?_eq_none (by omega)]
  simp
def creg (l : List UInt8) : Nat → Nat
  | 0 => 4294967295
  | i + 1 => step (creg l i ^^^ (obit l i).toNat)
theorem creg_lt (l : List UInt8) (i : Nat) : creg l i < 4294967296 := by
  induction i with
  | zero => exact (by decide : (4294967295 : Nat) < 4294967296)
  | succ i ih => exact step_lt _ (Nat.xor_lt_two_pow (n := 32) ih (by cases obit l i <;> decide))
theorem low_off (y : Nat) : step (y ^^^ y % 2) = y / 2 := by
  rw [step_xor, step_eq, step_eq]
  have e1 : y % 2 / 2 = 0 := by omega
  have e2 : y % 2 % 2 = y % 2 := by omega
  rw [e1, e2, Nat.zero_xor, Nat.xor_assoc, Nat.xor_self, Nat.xor_zero]
theorem creg_in (l : List UInt8) (k m : Nat) (hm : m ≤ 8) (b : Nat) (hb : b = (l.getD k 0).toNat) : creg l (8 * k + m) = steps m (creg l (8 * k) ^^^ b) ^^^ b / 2 ^ m := by
  induction m with
  | zero => rw [Nat.add_zero, Nat.pow_zero, Nat.div_one, steps, Nat.xor_assoc, Nat.xor_self, Nat.xor_zero]
  | succ m ih =>
    have ho : (obit l (8 * k + m)).toNat = b / 2 ^ m % 2 := by
      unfold obit
      rw [show (8 * k + m) / 8 = k by omega, show (8 * k + m) % 8 = m by omega, ← hb, Nat.toNat_testBit]
    rw [← Nat.add_assoc, creg, ih (by omega), ho, Nat.xor_assoc, step_xor, low_off, steps, Nat.pow_succ, Nat.div_div_eq_div_mul]
theorem creg_run (l : List UInt8) (k : Nat) (h : k ≤ l.length) : creg l (8 * k) = run 4294967295 (l.take k) := by
  induction k with
  | zero => rfl
  | succ k ih =>
    have hb := creg_in l k 8 (Nat.le_refl _) _ rfl
    rw [show 8 * (k + 1) = 8 * k + 8 by omega, hb, ih (by omega)]
    have hlt := (l.getD k 0).toNat_lt
    rw [Nat.div_eq_of_lt (by omega), Nat.xor_zero, List.take_succ_eq_append_getElem (by omega), run_append]
    show _ = byte _ _
    unfold byte
    rw [halves2, List.getD_eq_getElem?_getD, List.getElem?_eq_getElem (by omega)]
    rfl
theorem creg_sum (l : List UInt8) : sum l = 4294967295 - creg l (8 * l.length) := by
  rw [creg_run l _ (Nat.le_refl _), List.take_length]
  rfl
def flip (f : Nat → Bool) (j : Nat) : Nat → Bool := fun k => if k = j then !f k else f k
def put1 (f : Nat → Bool) (j : Nat) (b : Bool) : Nat → Bool := fun k => if k = j then b else f k
theorem flip_put (f : Nat → Bool) (j : Nat) : put1 f j (!f j) = flip f j := by
  funext k
  unfold put1 flip
  split
  · next h => rw [h]
  · rfl
def termL : List Nat := [26, 23, 22, 16, 12, 11, 10, 8, 7, 5, 4, 2, 1, 0]
def term (k : Nat) : Nat := termL.getD k 0
theorem term_le (k : Nat) : term k ≤ 26 := by
  by_cases h : k < 14
  · have : ∀ k : Fin 14, term k.val ≤ 26 := by decide
    exact this ⟨k, h⟩
  · unfold term
    rw [List.getD_eq_getElem?_getD, List.getElem?_eq_none (by simp [termL]; omega)]
    simp
def flips (f : Nat → Bool) (i : Nat) : Nat → Nat → Bool
  | 0 => f
  | k + 1 => flip (flips f i k) (i + 32 - term k)
def gone (f : Nat → Bool) : Nat → Nat → Bool
  | 0 => f
  | i + 1 => if gone f i i then flips (put1 (gone f i) i false) i 14 else gone f i
def par (d : Nat) : Nat → Bool
  | 0 => false
  | k + 1 => par d k ^^ decide (d = 32 - term k)
theorem flips_par (f : Nat → Bool) (i j k : Nat) (h : i ≤ j) : flips f i k j = (f j ^^ par (j - i) k) := by
  induction k with
  | zero => simp [flips, par]
  | succ k ih =>
    have ht := term_le k
    unfold flips flip par
    rw [ih]
    by_cases e : j = i + 32 - term k
    · have e2 : j - i = 32 - term k := by omega
      rw [if_pos e]
      simp only [e2, decide_true]
      cases f j <;> cases par (32 - term k) k <;> rfl
    · have e2 : ¬ j - i = 32 - term k := by omega
      rw [if_neg e]
      simp [e2]
theorem par_far (d k : Nat) (h : 32 < d) : par d k = false := by
  induction k with
  | zero => rfl
  | succ k ih =>
    unfold par
    rw [ih]
    have : ¬ d = 32 - term k := by omega
    simp [this]
theorem par_poly (d : Nat) (h : 1 ≤ d) : par d 14 = (3988292384 : Nat).testBit (d - 1) := by
  by_cases h32 : d ≤ 32
  · have : ∀ d : Fin 33, 1 ≤ d.val → par d.val 14 = (3988292384 : Nat).testBit (d.val - 1) := by decide
    exact this ⟨d, by omega⟩ h
  · rw [par_far d 14 (by omega), Nat.testBit_lt_two_pow]
    refine Nat.lt_of_lt_of_le (show 3988292384 < 2 ^ 32 by decide) (Nat.pow_le_pow_right (by omega) (by omega))
theorem step_bit (x k : Nat) : (step x).testBit k = (x.testBit (k + 1) ^^ (x.testBit 0 && (3988292384 : Nat).testBit k)) := by
  rw [step_eq, Nat.testBit_xor, Nat.testBit_div_two, Nat.testBit_zero]
  have : x % 2 = 0 ∨ x % 2 = 1 := by omega
  rcases this with e | e
  · rw [e]; simp
  · rw [e]; simp
def first (l : List UInt8) : Nat → Bool := fun j => obit l j ^^ decide (j < 32)
theorem gone_is (l : List UInt8) (i j : Nat) (h : i ≤ j) : gone (first l) i j = (obit l j ^^ (creg l i).testBit (j - i)) := by
  induction i generalizing j with
  | zero =>
    unfold gone first creg
    rw [Nat.sub_zero, show (4294967295 : Nat) = 2 ^ 32 - 1 by decide, Nat.testBit_two_pow_sub_one]
  | succ i ih =>
    have h0 := ih i (Nat.le_refl _)
    have hj := ih j (by omega)
    rw [Nat.sub_self] at h0
    have hc : (creg l (i + 1)).testBit (j - (i + 1)) = ((creg l i).testBit (j - i) ^^ (gone (first l) i i && (3988292384 : Nat).testBit (j - (i + 1)))) := by
      rw [creg, step_bit, show j - (i + 1) + 1 = j - i by omega, Nat.testBit_xor, Nat.testBit_xor, h0]
      have e1 : ((obit l i).toNat).testBit (j - i) = false := by
        apply Nat.testBit_lt_two_pow
        have : 2 ^ 1 ≤ 2 ^ (j - i) := Nat.pow_le_pow_right (by omega) (by omega)
        cases obit l i <;> simp <;> omega
      have e2 : ((obit l i).toNat).testBit 0 = obit l i := by cases obit l i <;> rfl
      rw [e1, e2, Bool.xor_false, Bool.xor_comm (obit l i)]
    unfold gone
    rw [hc]
    cases hg : gone (first l) i i with
    | false => rw [if_neg (by decide), hj, Bool.false_and, Bool.xor_false]
    | true =>
      rw [if_pos rfl, flips_par _ _ _ _ (by omega), par_poly _ (by omega), show put1 (gone (first l) i) i false j = gone (first l) i j from if_neg (by omega), hj, Bool.true_and, show j - i - 1 = j - (i + 1) by omega, Bool.xor_assoc]
theorem not_bit (c k : Nat) (hc : c < 4294967296) (hk : k < 32) : (4294967295 - c).testBit k = !c.testBit k := by
  have h := Nat.testBit_two_pow_sub_succ (n := 32) (x := c) hc k
  rw [show 4294967295 - c = 2 ^ 32 - (c + 1) by omega, h]
  simp [hk]
theorem sum_bit (l : List UInt8) (k : Nat) (hk : k < 32) : (!gone (first l) (8 * l.length) (8 * l.length + k)) = (sum l).testBit k := by
  rw [gone_is _ _ _ (by omega), obit_out l _ (by omega), Bool.false_xor, creg_sum, not_bit _ _ (creg_lt _ _) hk, show 8 * l.length + k - 8 * l.length = k by omega]
theorem top_next (s m : Nat) (hm : m < 32) : s / 2 ^ (32 - (m + 1)) = 2 * (s / 2 ^ (32 - m)) + (s.testBit (31 - m)).toNat := by
  rw [Nat.toNat_testBit, show 32 - (m + 1) = 31 - m by omega, show 32 - m = (31 - m) + 1 by omega, Nat.pow_succ, ← Nat.div_div_eq_div_mul]
  omega
end Cm
end Go.Proofs.YtbmabcddciibfaaGreat
