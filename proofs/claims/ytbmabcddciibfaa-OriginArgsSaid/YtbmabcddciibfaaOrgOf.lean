/- Contracts of origin's Of. (Made by wip/tools/gen_orgof.py.) -/
import Derived.Test.YtbmabcddciibfaaOrgChunk
import Derived.Test.YtbmabcddciibfaaLayoutGet
import Derived.Test.YtbmabcddciibfaaDiskSmall
namespace Go.Proofs.Ytbmabcddciibfaa
namespace Og
open Go.RowKit
set_option maxRecDepth 100000
set_option linter.unusedVariables false
/-- A layout in a box. -/
theorem lay_made (w : World) (a n g : Int) (W0 : World) (h : w.alloc (.cells #[.int .i64 a, .int .i64 n, .int .i64 g] 30) = W0) :
    Below w.heap.size w W0 ∧ ∀ W, Below W0.heap.size W0 W → W.cell? ⟨w.heap.size, 0, none⟩ = some (.int .i64 a) ∧ W.cell? ⟨w.heap.size, 1, none⟩ = some (.int .i64 n) ∧ W.cell? ⟨w.heap.size, 2, none⟩ = some (.int .i64 g) := by
  subst h
  have hr := heap_alloc_new w (.cells #[.int .i64 a, .int .i64 n, .int .i64 g] 30)
  refine ⟨(Below.refl _ _).alloc (Nat.le_refl _) _, fun W hW => ?_⟩
  have hr2 := (hW.block w.heap.size (by simp)).trans hr
  exact ⟨by rw [cell_of_row _ _ _ _ _ _ hr2]; rfl, by rw [cell_of_row _ _ _ _ _ _ hr2]; rfl, by rw [cell_of_row _ _ _ _ _ _ hr2]; rfl⟩
/-- An origin in a box. -/
theorem org_made (w : World) (v0 v1 v2 v3 v4 : Value) (W0 : World) (h : w.alloc (.cells #[v0, v1, v2, v3, v4] 54) = W0) :
    Below w.heap.size w W0 ∧ W0.heap[w.heap.size]? = some (.cells #[v0, v1, v2, v3, v4] 54 (0, 0)) ∧ ∀ W, Below W0.heap.size W0 W → W.cell? ⟨w.heap.size, 0, none⟩ = some v0 ∧ W.cell? ⟨w.heap.size, 3, none⟩ = some v3 ∧ W.cell? ⟨w.heap.size, 4, none⟩ = some v4 := by
  subst h
  have hr := heap_alloc_new w (.cells #[v0, v1, v2, v3, v4] 54)
  refine ⟨(Below.refl _ _).alloc (Nat.le_refl _) _, hr, fun W hW => ?_⟩
  have hr2 := (hW.block w.heap.size (by simp)).trans hr
  exact ⟨by rw [cell_of_row _ _ _ _ _ _ hr2]; rfl, by rw [cell_of_row _ _ _ _ _ _ hr2]; rfl, by rw [cell_of_row _ _ _ _ _ _ hr2]; rfl⟩
def NoOrg (x : Int) (w : World) (e : Ending) (w' : World) : Prop := e = .returned (.tuple #[.pointer none, .int .i64 x]) ∧ Below w.heap.size w w'
/-- What a layout tells. -/
structure Tells (a n g x1 x2 x3 x4 : Int) : Prop where
  org : ∀ w, Calls Try.prog 18 #[.agg #[.int .i64 a, .int .i64 n, .int .i64 g]] w fun e w' => e = .returned (.agg #[.int .i64 x1, .int .i64 x2]) ∧ Below w.heap.size w w'
  geo : ∀ w, Calls Try.prog 19 #[.agg #[.int .i64 a, .int .i64 n, .int .i64 g]] w fun e w' => e = .returned (.agg #[.int .i64 x3, .int .i64 x4]) ∧ Below w.heap.size w w'
theorem tells_ok {a n g : Int} (h : Um.okU a n g = true) : Tells a n g 17 n n g := ⟨fun w => lorigin_ok a n g w h, fun w => lgeom_ok a n g w h⟩
theorem tells_no {a n g : Int} (h : Um.okU a n g = false) : Tells a n g 0 0 0 0 := ⟨fun w => lorigin_no a n g w h, fun w => lgeom_no a n g w h⟩
theorem oof_nil {a n g x1 x2 x3 x4 : Int} (ht : Tells a n g x1 x2 x3 x4) (w : World) : Calls Try.prog 7 #[.pointer none, .agg #[.int .i64 a, .int .i64 n, .int .i64 g]] w (NoOrg 1 w) := by
  obtain ⟨W0, hW0⟩ : ∃ W0, w.alloc (.cells #[.int .i64 a, .int .i64 n, .int .i64 g] 30) = W0 := ⟨_, rfl⟩
  obtain ⟨hB, hc⟩ := lay_made w a n g W0 hW0
  have HB := Lib.hid hB
  have KEEP := Lib.hid hc
  have OR := Lib.hid ht.org
  have GE := Lib.hid ht.geo
  obtain ⟨a0, a1, a2⟩ := hc W0 (Below.refl _ _)
  obtain ⟨G, hG⟩ : ∃ G, G = w.heap.size := ⟨_, rfl⟩
  unfold NoOrg
  clear hB hc ht
  go_enter Try.func7, Try.ntmps7
  go_upto_region 1 with fail
  clear hW0
  go_region_held3 (fun w' => w'.cell? ⟨w.heap.size, 0, none⟩ = some (.int .i64 a) ∧ w'.cell? ⟨w.heap.size, 1, none⟩ = some (.int .i64 n) ∧ w'.cell? ⟨w.heap.size, 2, none⟩ = some (.int .i64 g))
    (first | (refine ⟨?_, ?_, ?_⟩ <;> assumption) | go_keep)
    (first
      | (go_at_call 18; refine (OR.out _).mono ?_; rintro e w1 ⟨rfl, hb⟩; have B1 : Hid (Below W0.heap.size W0 w1) := Lib.hid (drewB hb); obtain ⟨t0, t1, t2⟩ := KEEP.out _ B1.out; clear hb)
      | (go_at_call 19; refine (GE.out _).mono ?_; rintro e w2 ⟨rfl, hb⟩; have B2 : Hid (Below W0.heap.size W0 w2) := Lib.hid (keepB hb B1.out); obtain ⟨u0, u1, u2⟩ := KEEP.out _ B2.out; clear hb))
  clear a0 a1 a2 t0 t1 t2 u0 u1 u2
  obtain ⟨W3, hW3⟩ : ∃ W3, w2.alloc (.cells #[.pointer none, .int .i64 x1, .int .i64 x2, .int .i64 x3, .int .i64 x4] 54) = W3 := ⟨_, rfl⟩
  obtain ⟨hb3, hr3, hk3⟩ := org_made w2 _ _ _ _ _ W3 hW3
  have B3 : Hid (Below W0.heap.size W0 W3) := Lib.hid (keepB hb3 B2.out)
  go_wp2_with fail
  go_ret2
  exact ⟨rfl, keepB B3.out HB.out⟩
theorem oof_wrong {a n g x1 x2 x3 x4 : Int} (ht : Tells a n g x1 x2 x3 x4) (hr : Em.rightB x3 x4 = false) (q : Addr) (w : World) : Calls Try.prog 7 #[.pointer (some q), .agg #[.int .i64 a, .int .i64 n, .int .i64 g]] w (NoOrg 1 w) := by
  obtain ⟨W0, hW0⟩ : ∃ W0, w.alloc (.cells #[.int .i64 a, .int .i64 n, .int .i64 g] 30) = W0 := ⟨_, rfl⟩
  obtain ⟨hB, hc⟩ := lay_made w a n g W0 hW0
  have HB := Lib.hid hB
  have KEEP := Lib.hid hc
  have OR := Lib.hid ht.org
  have GE := Lib.hid ht.geo
  obtain ⟨a0, a1, a2⟩ := hc W0 (Below.refl _ _)
  obtain ⟨G, hG⟩ : ∃ G, G = w.heap.size := ⟨_, rfl⟩
  have RI := Lib.hid (fun w1 => Geo.right_any x3 x4 w1)
  rw [hr] at RI
  unfold NoOrg
  clear hB hc ht hr
  go_enter Try.func7, Try.ntmps7
  go_upto_region 1 with fail
  clear hW0
  go_region_held3 (fun w' => w'.cell? ⟨w.heap.size, 0, none⟩ = some (.int .i64 a) ∧ w'.cell? ⟨w.heap.size, 1, none⟩ = some (.int .i64 n) ∧ w'.cell? ⟨w.heap.size, 2, none⟩ = some (.int .i64 g))
    (first | (refine ⟨?_, ?_, ?_⟩ <;> assumption) | go_keep)
    (first
      | (go_at_call 18; refine (OR.out _).mono ?_; rintro e w1 ⟨rfl, hb⟩; have B1 : Hid (Below W0.heap.size W0 w1) := Lib.hid (drewB hb); obtain ⟨t0, t1, t2⟩ := KEEP.out _ B1.out; clear hb)
      | (go_at_call 19; refine (GE.out _).mono ?_; rintro e w2 ⟨rfl, hb⟩; have B2 : Hid (Below W0.heap.size W0 w2) := Lib.hid (keepB hb B1.out); obtain ⟨u0, u1, u2⟩ := KEEP.out _ B2.out; clear hb))
  clear a0 a1 a2 t0 t1 t2 u0 u1 u2
  obtain ⟨W3, hW3⟩ : ∃ W3, w2.alloc (.cells #[.pointer (some q), .int .i64 x1, .int .i64 x2, .int .i64 x3, .int .i64 x4] 54) = W3 := ⟨_, rfl⟩
  obtain ⟨hb3, hr3, hk3⟩ := org_made w2 _ _ _ _ _ W3 hW3
  have B3 : Hid (Below W0.heap.size W0 W3) := Lib.hid (keepB hb3 B2.out)
  obtain ⟨p0, p3, p4⟩ := hk3 W3 (Below.refl _ _)
  clear hb3 hr3 hk3
  rw [hW3]
  go_wp2_with fail
  clear hW3
  refine (RI.out _).mono ?_
  rintro e w4 ⟨rfl, hb⟩
  have B4 := Lib.hid (keepB hb B3.out)
  clear hb p0 p3 p4
  go_wp2_with fail
  go_ret2
  exact ⟨rfl, keepB B4.out HB.out⟩
set_option maxHeartbeats 2000000 in
theorem oof_few {w : World} {d : Dsk.Ob} {st : Dm.St} (h : Dsk.Dk w d st) {a n g s : Nat} (hu : Um.okU (a : Int) (n : Int) (g : Int) = true) (hs : st.S.length = s) (hl : s < a) :
    Calls Try.prog 7 #[.pointer (some ⟨d.p, 0, none⟩), .agg #[.int .i64 (a : Int), .int .i64 (n : Int), .int .i64 (g : Int)]] w (NoOrg 2 w) := by
  have ST := Lib.hid (fun w1 => lstores_ok (a : Int) (n : Int) (g : Int) w1 hu)
  have RI := Lib.hid (fun w1 => Geo.right_any (n : Int) (g : Int) w1)
  obtain ⟨k1, k2, k3, k4, k5, k6⟩ := Um.okU_small hu
  have hri : Em.rightB (n : Int) (g : Int) = true := (Em.right_iff _ _).2 ⟨by omega, by omega, by omega, by omega⟩
  rw [hri] at RI
  have e3 : IntKind.i64.wrap (17 + (n : Int) + ((a : Int) - (17 + (n : Int)))) = (a : Int) := by rw [IntWalk.i64_in _ (by omega)]; omega
  have DK := Lib.hid h
  have ht := tells_ok hu
  obtain ⟨W0, hW0⟩ : ∃ W0, w.alloc (.cells #[.int .i64 (a : Int), .int .i64 (n : Int), .int .i64 (g : Int)] 30) = W0 := ⟨_, rfl⟩
  obtain ⟨hB, hc⟩ := lay_made w _ _ _ W0 hW0
  have HB := Lib.hid hB
  have KEEP := Lib.hid hc
  have OR := Lib.hid ht.org
  have GE := Lib.hid ht.geo
  obtain ⟨a0, a1, a2⟩ := hc W0 (Below.refl _ _)
  obtain ⟨G, hG⟩ : ∃ G, G = w.heap.size := ⟨_, rfl⟩
  have e4 : decide ((s : Int) < (a : Int)) = true := by simp; omega
  have e5 : decide (s < a) = true := by simp; omega
  have HL := Lib.hid hs
  unfold NoOrg
  clear hB hc ht hri hu h hs hl k1 k2 k3 k4 k5 k6
  go_enter Try.func7, Try.ntmps7
  go_upto_region 1 with fail
  clear hW0
  go_region_held3 (fun w' => w'.cell? ⟨w.heap.size, 0, none⟩ = some (.int .i64 (a : Int)) ∧ w'.cell? ⟨w.heap.size, 1, none⟩ = some (.int .i64 (n : Int)) ∧ w'.cell? ⟨w.heap.size, 2, none⟩ = some (.int .i64 (g : Int)))
    (first | (refine ⟨?_, ?_, ?_⟩ <;> assumption) | go_keep)
    (first
      | (go_at_call 18; refine (OR.out _).mono ?_; rintro e w1 ⟨rfl, hb⟩; have B1 : Hid (Below W0.heap.size W0 w1) := Lib.hid (drewB hb); obtain ⟨t0, t1, t2⟩ := KEEP.out _ B1.out; clear hb)
      | (go_at_call 19; refine (GE.out _).mono ?_; rintro e w2 ⟨rfl, hb⟩; have B2 : Hid (Below W0.heap.size W0 w2) := Lib.hid (keepB hb B1.out); obtain ⟨u0, u1, u2⟩ := KEEP.out _ B2.out; clear hb))
  clear a0 a1 a2 t0 t1 t2 u0 u1 u2
  obtain ⟨W3, hW3⟩ : ∃ W3, w2.alloc (.cells #[.pointer (some ⟨d.p, 0, none⟩), .int .i64 17, .int .i64 (n : Int), .int .i64 (n : Int), .int .i64 (g : Int)] 54) = W3 := ⟨_, rfl⟩
  obtain ⟨hb3, hr3, hk3⟩ := org_made w2 _ _ _ _ _ W3 hW3
  have B3 : Hid (Below W0.heap.size W0 W3) := Lib.hid (keepB hb3 B2.out)
  obtain ⟨p0, p3, p4⟩ := hk3 W3 (Below.refl _ _)
  have PK := Lib.hid hk3
  have PR := Lib.hid hr3
  have PB : Hid (Below w2.heap.size w2 W3) := hb3
  clear hb3 hr3 hk3
  rw [hW3]
  go_wp2_with fail
  clear hW3
  refine (RI.out _).mono ?_
  rintro e w4 ⟨rfl, hb⟩
  have B4 := Lib.hid (keepB hb B3.out)
  have B34 : Hid (Below W3.heap.size W3 w4) := hb
  obtain ⟨c0, c1, c2⟩ := KEEP.out _ B4.out
  clear hb p0 p3 p4
  go_wp2_with fail
  refine (ST.out _).mono ?_
  rintro e w5 ⟨rfl, hb⟩
  have B35 : Hid (Below W3.heap.size W3 w5) := Lib.hid (keepB hb B34.out)
  clear hb c0 c1 c2
  obtain ⟨W6, hW6⟩ : ∃ W6, w5.alloc (.cells #[.int .i64 (17 + (n : Int)), .int .i64 ((a : Int) - (17 + (n : Int)))] 48) = W6 := ⟨_, rfl⟩
  have hb6 : Below w5.heap.size w5 W6 := by rw [← hW6]; exact (Below.refl _ _).alloc (Nat.le_refl _) _
  have hr6 : W6.heap[w5.heap.size]? = some (.cells #[.int .i64 (17 + (n : Int)), .int .i64 ((a : Int) - (17 + (n : Int)))] 48 (0, 0)) := by rw [← hW6]; exact heap_alloc_new w5 _
  obtain ⟨s0, s1, sf⟩ := duo_cells hr6
  have B36 : Hid (Below W3.heap.size W3 W6) := Lib.hid (keepB hb6 B35.out)
  obtain ⟨p0, p3, p4⟩ := PK.out _ B36.out
  have DK6 : Hid (∀ m, Dsk.Dk (W6.drewN m) d st) := Lib.hid fun m => (DK.out.below (keepB (keepB B36.out B3.out) HB.out)).same fun _ _ => rfl
  have SE : Hid (∀ m, Calls Try.prog 22 #[.pointer (some ⟨d.p, 0, none⟩)] (W6.drewN m) fun e w' => e = .returned (.int .i64 (s : Int)) ∧ ∃ j, w' = W6.drewN j) := Lib.hid fun m => (Dsk.sectors_any (DK6.out m)).mono fun e w' ⟨h1, h2⟩ => ⟨by rw [← HL.out]; exact h1, m, h2.symm⟩
  clear hb6 hr6
  go_wp2_with fail
  go_quiet (first | (go_at_call 22; exact SE.out _))
  generalize hW7 : W6.drewN nq = W7
  have B37 : Hid (Below W3.heap.size W3 W7) := Lib.hid (by rw [← hW7]; have h := B36.out; exact ⟨h.os, h.tape, h.output, h.size, h.block⟩)
  clear hW7 hW6 s0 s1 sf p0 p3 p4 SE
  go_wp2_with fail
  go_ret2
  exact ⟨rfl, keepB (keepB B37.out B3.out) HB.out⟩
/-- There is one. -/
def MadeO (n g : Nat) (d : Dsk.Ob) (st : Dm.St) (w : World) (e : Ending) (w' : World) : Prop := ∃ o, e = .returned (.tuple #[.pointer (some ⟨o.q, 0, none⟩), .int .i64 0]) ∧ Gk w' o n g st ∧ o.d = d ∧ w.heap.size ≤ o.q ∧ Below w.heap.size w w'
set_option maxHeartbeats 2000000 in
theorem oof_ok {w : World} {d : Dsk.Ob} {st : Dm.St} (h : Dsk.Dk w d st) {a n g s : Nat} (hu : Um.okU (a : Int) (n : Int) (g : Int) = true) (hs : st.S.length = s) (hl : a ≤ s) :
    Calls Try.prog 7 #[.pointer (some ⟨d.p, 0, none⟩), .agg #[.int .i64 (a : Int), .int .i64 (n : Int), .int .i64 (g : Int)]] w (MadeO n g d st w) := by
  have ST := Lib.hid (fun w1 => lstores_ok (a : Int) (n : Int) (g : Int) w1 hu)
  have RI := Lib.hid (fun w1 => Geo.right_any (n : Int) (g : Int) w1)
  obtain ⟨k1, k2, k3, k4, k5, k6⟩ := Um.okU_small hu
  have hri : Em.rightB (n : Int) (g : Int) = true := (Em.right_iff _ _).2 ⟨by omega, by omega, by omega, by omega⟩
  rw [hri] at RI
  have e3 : IntKind.i64.wrap (17 + (n : Int) + ((a : Int) - (17 + (n : Int)))) = (a : Int) := by rw [IntWalk.i64_in _ (by omega)]; omega
  have DK := Lib.hid h
  have ht := tells_ok hu
  obtain ⟨W0, hW0⟩ : ∃ W0, w.alloc (.cells #[.int .i64 (a : Int), .int .i64 (n : Int), .int .i64 (g : Int)] 30) = W0 := ⟨_, rfl⟩
  obtain ⟨hB, hc⟩ := lay_made w _ _ _ W0 hW0
  have HB := Lib.hid hB
  have KEEP := Lib.hid hc
  have OR := Lib.hid ht.org
  have GE := Lib.hid ht.geo
  obtain ⟨a0, a1, a2⟩ := hc W0 (Below.refl _ _)
  obtain ⟨G, hG⟩ : ∃ G, G = w.heap.size := ⟨_, rfl⟩
  have e4 : decide ((s : Int) < (a : Int)) = false := by simp; omega
  have e5 : decide (s < a) = false := by simp; omega
  have HL := Lib.hid hs
  have HR : Hid (Em.rightB (n : Int) (g : Int) = true ∧ 17 + n ≤ st.S.length) := Lib.hid ⟨hri, by omega⟩
  unfold MadeO
  clear hB hc ht hri hu h hs hl k1 k2 k3 k4 k5 k6
  go_enter Try.func7, Try.ntmps7
  go_upto_region 1 with fail
  clear hW0
  go_region_held3 (fun w' => w'.cell? ⟨w.heap.size, 0, none⟩ = some (.int .i64 (a : Int)) ∧ w'.cell? ⟨w.heap.size, 1, none⟩ = some (.int .i64 (n : Int)) ∧ w'.cell? ⟨w.heap.size, 2, none⟩ = some (.int .i64 (g : Int)))
    (first | (refine ⟨?_, ?_, ?_⟩ <;> assumption) | go_keep)
    (first
      | (go_at_call 18; refine (OR.out _).mono ?_; rintro e w1 ⟨rfl, hb⟩; have B1 : Hid (Below W0.heap.size W0 w1) := Lib.hid (drewB hb); obtain ⟨t0, t1, t2⟩ := KEEP.out _ B1.out; clear hb)
      | (go_at_call 19; refine (GE.out _).mono ?_; rintro e w2 ⟨rfl, hb⟩; have B2 : Hid (Below W0.heap.size W0 w2) := Lib.hid (keepB hb B1.out); obtain ⟨u0, u1, u2⟩ := KEEP.out _ B2.out; clear hb))
  clear a0 a1 a2 t0 t1 t2 u0 u1 u2
  obtain ⟨W3, hW3⟩ : ∃ W3, w2.alloc (.cells #[.pointer (some ⟨d.p, 0, none⟩), .int .i64 17, .int .i64 (n : Int), .int .i64 (n : Int), .int .i64 (g : Int)] 54) = W3 := ⟨_, rfl⟩
  obtain ⟨hb3, hr3, hk3⟩ := org_made w2 _ _ _ _ _ W3 hW3
  have B3 : Hid (Below W0.heap.size W0 W3) := Lib.hid (keepB hb3 B2.out)
  obtain ⟨p0, p3, p4⟩ := hk3 W3 (Below.refl _ _)
  have PK := Lib.hid hk3
  have PR := Lib.hid hr3
  have PB : Hid (Below w2.heap.size w2 W3) := hb3
  clear hb3 hr3 hk3
  rw [hW3]
  go_wp2_with fail
  clear hW3
  refine (RI.out _).mono ?_
  rintro e w4 ⟨rfl, hb⟩
  have B4 := Lib.hid (keepB hb B3.out)
  have B34 : Hid (Below W3.heap.size W3 w4) := hb
  obtain ⟨c0, c1, c2⟩ := KEEP.out _ B4.out
  clear hb p0 p3 p4
  go_wp2_with fail
  refine (ST.out _).mono ?_
  rintro e w5 ⟨rfl, hb⟩
  have B35 : Hid (Below W3.heap.size W3 w5) := Lib.hid (keepB hb B34.out)
  clear hb c0 c1 c2
  obtain ⟨W6, hW6⟩ : ∃ W6, w5.alloc (.cells #[.int .i64 (17 + (n : Int)), .int .i64 ((a : Int) - (17 + (n : Int)))] 48) = W6 := ⟨_, rfl⟩
  have hb6 : Below w5.heap.size w5 W6 := by rw [← hW6]; exact (Below.refl _ _).alloc (Nat.le_refl _) _
  have hr6 : W6.heap[w5.heap.size]? = some (.cells #[.int .i64 (17 + (n : Int)), .int .i64 ((a : Int) - (17 + (n : Int)))] 48 (0, 0)) := by rw [← hW6]; exact heap_alloc_new w5 _
  obtain ⟨s0, s1, sf⟩ := duo_cells hr6
  have B36 : Hid (Below W3.heap.size W3 W6) := Lib.hid (keepB hb6 B35.out)
  obtain ⟨p0, p3, p4⟩ := PK.out _ B36.out
  have DK6 : Hid (∀ m, Dsk.Dk (W6.drewN m) d st) := Lib.hid fun m => (DK.out.below (keepB (keepB B36.out B3.out) HB.out)).same fun _ _ => rfl
  have SE : Hid (∀ m, Calls Try.prog 22 #[.pointer (some ⟨d.p, 0, none⟩)] (W6.drewN m) fun e w' => e = .returned (.int .i64 (s : Int)) ∧ ∃ j, w' = W6.drewN j) := Lib.hid fun m => (Dsk.sectors_any (DK6.out m)).mono fun e w' ⟨h1, h2⟩ => ⟨by rw [← HL.out]; exact h1, m, h2.symm⟩
  clear hb6 hr6
  go_wp2_with fail
  go_quiet (first | (go_at_call 22; exact SE.out _))
  generalize hW7 : W6.drewN nq = W7
  have B37 : Hid (Below W3.heap.size W3 W7) := Lib.hid (by rw [← hW7]; have h := B36.out; exact ⟨h.os, h.tape, h.output, h.size, h.block⟩)
  clear hW7 hW6 s0 s1 sf p0 p3 p4 SE
  go_wp2_with fail
  go_ret2
  have hw2 : w.heap.size ≤ w2.heap.size := Nat.le_trans HB.out.size B2.out.size
  refine ⟨⟨w2.heap.size, d⟩, rfl, ⟨(B37.out.block w2.heap.size (Dsk.lt_of_heap PR.out)).trans PR.out, DK.out.below (keepB (keepB B37.out B3.out) HB.out), fun hf => absurd (DK.out.lt _ hf) (Nat.not_lt.2 hw2), HR.out.1, HR.out.2⟩, rfl, hw2, keepB (keepB B37.out B3.out) HB.out⟩
end Og
end Go.Proofs.Ytbmabcddciibfaa