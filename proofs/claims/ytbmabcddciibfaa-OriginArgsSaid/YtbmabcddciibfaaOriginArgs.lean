/- The law OriginArgs. (Made by wip/tools/gen_originargs.py.) -/
import Derived.Test.YtbmabcddciibfaaOrgAlive
import Derived.Test.YtbmabcddciibfaaOrgNil
import Derived.Test.YtbmabcddciibfaaSuperRRight
namespace Go.Proofs.Ytbmabcddciibfaa
namespace Og
open Go.RowKit
set_option maxRecDepth 100000
set_option linter.unusedVariables false
/-- Where the arguments lie. -/
theorem arg_boxes (w : World) (a n g : Int) (v0 v1 v2 v3 : Value) (W0 : World) (h : (w.alloc (.cells #[.int .i64 a, .int .i64 n, .int .i64 g] 23)).alloc (.cells #[v0, v1, v2, v3] 25) = W0) :
    Below w.heap.size w W0 ∧ ∀ W, Below W0.heap.size W0 W → W.cell? ⟨w.heap.size, 0, none⟩ = some (.int .i64 a) ∧ W.cell? ⟨w.heap.size, 1, none⟩ = some (.int .i64 n) ∧ W.cell? ⟨w.heap.size, 2, none⟩ = some (.int .i64 g) ∧ W.cell? ⟨w.heap.size + 1, 0, none⟩ = some v0 ∧ W.cell? ⟨w.heap.size + 1, 1, none⟩ = some v1 ∧ W.cell? ⟨w.heap.size + 1, 2, none⟩ = some v2 ∧ W.cell? ⟨w.heap.size + 1, 3, none⟩ = some v3 := by
  subst h
  have h1 := heap_alloc_new w (.cells #[.int .i64 a, .int .i64 n, .int .i64 g] 23)
  have h2 := heap_alloc_new (w.alloc (.cells #[.int .i64 a, .int .i64 n, .int .i64 g] 23)) (.cells #[v0, v1, v2, v3] 25)
  have hs : (w.alloc (.cells #[.int .i64 a, .int .i64 n, .int .i64 g] 23)).heap.size = w.heap.size + 1 := by simp
  rw [hs] at h2
  have hb : Below (w.heap.size + 1) (w.alloc (.cells #[.int .i64 a, .int .i64 n, .int .i64 g] 23)) ((w.alloc (.cells #[.int .i64 a, .int .i64 n, .int .i64 g] 23)).alloc (.cells #[v0, v1, v2, v3] 25)) := (Below.refl _ _).alloc (by simp) _
  refine ⟨((Below.refl _ w).alloc (Nat.le_refl _) _).alloc (by simp) _, fun W hW => ?_⟩
  have r1 := (hW.block w.heap.size (by simp; omega)).trans ((hb.block w.heap.size (by omega)).trans h1)
  have r2 := (hW.block (w.heap.size + 1) (by simp)).trans h2
  exact ⟨by rw [cell_of_row _ _ _ _ _ _ r1]; rfl, by rw [cell_of_row _ _ _ _ _ _ r1]; rfl, by rw [cell_of_row _ _ _ _ _ _ r1]; rfl, by rw [cell_of_row _ _ _ _ _ _ r2]; rfl, by rw [cell_of_row _ _ _ _ _ _ r2]; rfl, by rw [cell_of_row _ _ _ _ _ _ r2]; rfl, by rw [cell_of_row _ _ _ _ _ _ r2]; rfl⟩
theorem fits_new (w : World) (v0 v1 v2 : Value) (D : ByteArray) {L : Nat} (hs : D.size = L) :
    Calls Try.prog 5 #[.slice (some ⟨w.heap.size, 0, none⟩) 1 1] (w.alloc (.cells #[v0, v1, v2, .string D] 25)) fun e w' => e = .returned (.bool (decide (L ≤ 8320))) ∧ Below w.heap.size w w' := by
  have hr := heap_alloc_new w (.cells #[v0, v1, v2, .string D] 25)
  refine (ofits_one (D := D) (by rw [cell_of_row _ _ _ _ _ _ hr]; rfl) hs).mono ?_
  rintro e w' ⟨he, rfl⟩
  exact ⟨he, (Below.refl _ _).alloc (Nat.le_refl _) _⟩
/-- A dead disk. -/
def dd (A : Nat) : Dm.St := (Dm.flush (Dm.fail (Dm.fresh A) 0)).1
theorem dd_is (A : Nat) : dd A = { Dm.fail (Dm.fresh A) 0 with dead := true } := by
  unfold dd Dm.flush
  have h : Dm.spendB (Dm.fail (Dm.fresh A) 0) = false := rfl
  rw [h, if_neg (by decide)]
  rfl
theorem dd_dead (A : Nat) : (dd A).dead = true := by rw [dd_is]
theorem dd_P (A : Nat) : (dd A).P = [] := by rw [dd_is]; rfl
theorem dd_S (A : Nat) : (dd A).S.length = A := by rw [dd_is]; exact List.length_replicate ..
theorem dd_read (A : Nat) (a k : Int) : Dm.readE (dd A) a k = 41 := by unfold Dm.readE; rw [dd_dead]; rfl
theorem dd_flush (A : Nat) : (Dm.flush (dd A)).2 = 41 := by
  unfold Dm.flush
  have h : Dm.spendB (dd A) = false := by unfold Dm.spendB; rw [dd_dead]; simp
  rw [h, if_neg (by decide)]
set_option maxHeartbeats 4000000 in
theorem args_no (a n g k p q : Int) (D : ByteArray) (w : World) (hu : Um.okU a n g = false) :
    Calls Try.prog 3 #[.agg #[.int .i64 a, .int .i64 n, .int .i64 g], .agg #[.int .u8 k, .int .i64 p, .int .i64 q, .string D]] w fun e w' => e = .returned (.bool true) ∧ Below w.heap.size w w' := by
  obtain ⟨W0, hW0⟩ : ∃ W0, (w.alloc (.cells #[.int .i64 a, .int .i64 n, .int .i64 g] 23)).alloc (.cells #[.int .u8 k, .int .i64 p, .int .i64 q, .string D] 25) = W0 := ⟨_, rfl⟩
  obtain ⟨hB, hc⟩ := arg_boxes w _ _ _ _ _ _ _ W0 hW0
  have HB := Lib.hid hB
  have KEEP := Lib.hid hc
  obtain ⟨L, hL⟩ : ∃ L, D.size = L := ⟨_, rfl⟩
  have FI := Lib.hid (fun w1 => fits_new w1 (.int .u8 k) (.int .i64 p) (.int .i64 q) D hL)
  have RS := Lib.hid (fun w1 => ruright_any a n g w1)
  unfold Uv at RS
  have AL := Lib.hid (fun w1 => oalive_any w1)
  have N1 := Lib.hid (fun w1 => oread_nil p q w1)
  have N2 := Lib.hid (fun w1 => ochunk_nil p w1)
  have N3 := Lib.hid (fun w1 => owrite_nil p D w1)
  have N4 := Lib.hid (fun w1 => oput_nil p D w1)
  have N5 := Lib.hid (fun w1 => oflush_nil w1)
  have NW := Lib.hid (fun w1 => Dsk.new_any 0 w1 (by decide))
  rw [hu] at RS
  have LO := Lib.hid (fun w1 => of_no a n g w1 hu)
  have hz : Um.okU 0 0 0 = false := by decide
  have ON := Lib.hid (fun w1 => oof_nil (tells_no hz) w1)
  have OW : Hid (∀ (w1 : World) (d : Dsk.Ob), Dsk.Dk w1 d (Dm.fresh 0) → Calls Try.prog 7 #[.pointer (some ⟨d.p, 0, none⟩), .agg #[.int .i64 0, .int .i64 0, .int .i64 0]] w1 (NoOrg 1 w1)) := Lib.hid fun w1 d hd => oof_wrong (tells_no hz) (by decide) _ w1
  unfold NoOrg at ON OW
  obtain ⟨a0, a1, a2, b0, b1, b2, b3⟩ := hc W0 (Below.refl _ _)
  clear hB hc hu hz hL
  go_enter Try.func3, Try.ntmps3
  go_wp2_with fail
  clear hW0
  refine (RS.out _).mono ?_
  rintro e w1 ⟨rfl, hb⟩
  have B1 : Hid (Below W0.heap.size W0 w1) := hb
  clear hb a0 a1 a2 b0 b1 b2 b3 RS
  obtain ⟨a0, a1, a2, b0, b1, b2, b3⟩ := KEEP.out _ B1.out
  go_wp2_with fail
  refine (FI.out _).mono ?_
  rintro e w2 ⟨rfl, hb⟩
  have B2 := Lib.hid (keepB hb B1.out)
  clear hb a0 a1 a2 b0 b1 b2 b3 FI
  obtain ⟨a0, a1, a2, b0, b1, b2, b3⟩ := KEEP.out _ B2.out
  go_wp2_with fail
  refine (LO.out _).mono ?_
  rintro e w3 ⟨rfl, hb⟩
  have B3 := Lib.hid (keepB hb B2.out)
  clear hb a0 a1 a2 b0 b1 b2 b3 LO
  go_upto_region 4 with fail
  obtain ⟨W4, hW4⟩ : ∃ W4, w3.alloc (.cells #[.int .i64 0, .int .i64 0, .int .i64 0] 30) = W4 := ⟨_, rfl⟩
  obtain ⟨hb4, hy4⟩ := lay_made w3 _ _ _ W4 hW4
  rw [hW4]
  obtain ⟨Y, hY⟩ : ∃ Y, Y = w3.heap.size := ⟨_, rfl⟩
  rw [← hY] at hy4 ⊢
  have B4 := Lib.hid (keepB hb4 B3.out)
  have KY := Lib.hid hy4
  obtain ⟨y0, y1, y2⟩ := hy4 W4 (Below.refl _ _)
  clear hb4 hy4 hY hW4 B1 B2 B3
  go_wp2_with fail
  refine (ON.out _).mono ?_
  rintro e w5 ⟨rfl, hb⟩
  have Q5 : Hid (Below W4.heap.size W4 w5) := hb
  clear hb y0 y1 y2 ON
  obtain ⟨y0, y1, y2⟩ := KY.out _ Q5.out
  go_upto_region 5 with fail
  go_region_held3 (fun w' => w'.cell? ⟨Y, 0, none⟩ = some (.int .i64 0) ∧ w'.cell? ⟨Y, 1, none⟩ = some (.int .i64 0) ∧ w'.cell? ⟨Y, 2, none⟩ = some (.int .i64 0))
    (first | (refine ⟨?_, ?_, ?_⟩ <;> assumption) | go_keep)
    (first
      | (go_at_call 8; refine (NW.out _).mono ?_; rintro e w6 ⟨d6, rfl, hd6, hf6, hb⟩; have Q6 := Lib.hid (keepB (drewB hb) Q5.out); have D6 := Lib.hid hd6; obtain ⟨x0, x1, x2⟩ := KY.out _ Q6.out; clear hb hd6 hf6)
      | (go_at_call 7; refine (OW.out _ _ D6.out).mono ?_; rintro e w7 ⟨rfl, hb⟩; have Q7 := Lib.hid (keepB hb Q6.out); obtain ⟨z0, z1, z2⟩ := KY.out _ Q7.out; clear hb))
  clear y0 y1 y2 x0 x1 x2 NW OW D6
  have B7 := Lib.hid (keepB Q7.out B4.out)
  obtain ⟨a0, a1, a2, b0, b1, b2, b3⟩ := KEEP.out _ B7.out
  go_wp2_with (first
    | (go_at_call 9; refine (N1.out _).mono ?_; rintro e w' ⟨rfl, rfl⟩)
    | (go_at_call 10; refine (N2.out _).mono ?_; rintro e w' ⟨rfl, rfl⟩)
    | (go_at_call 11; refine (N3.out _).mono ?_; rintro e w' ⟨rfl, rfl⟩)
    | (go_at_call 12; refine (N4.out _).mono ?_; rintro e w' ⟨rfl, rfl⟩)
    | (go_at_call 13; refine (N5.out _).mono ?_; rintro e w' ⟨rfl, rfl⟩))
  refine (AL.out _).mono ?_
  rintro e w8 ⟨rfl, hb⟩
  have B8 := Lib.hid (keepB hb B7.out)
  clear hb
  go_wp2_with fail
  go_ret
  exact ⟨rfl, keepB B8.out HB.out⟩
set_option maxHeartbeats 4000000 in
theorem args_far (a n g k p q : Int) (D : ByteArray) (w : World) (hu : Um.okU a n g = true) (hf : 300 < a) :
    Calls Try.prog 3 #[.agg #[.int .i64 a, .int .i64 n, .int .i64 g], .agg #[.int .u8 k, .int .i64 p, .int .i64 q, .string D]] w fun e w' => e = .returned (.bool true) ∧ Below w.heap.size w w' := by
  obtain ⟨W0, hW0⟩ : ∃ W0, (w.alloc (.cells #[.int .i64 a, .int .i64 n, .int .i64 g] 23)).alloc (.cells #[.int .u8 k, .int .i64 p, .int .i64 q, .string D] 25) = W0 := ⟨_, rfl⟩
  obtain ⟨hB, hc⟩ := arg_boxes w _ _ _ _ _ _ _ W0 hW0
  have HB := Lib.hid hB
  have KEEP := Lib.hid hc
  obtain ⟨L, hL⟩ : ∃ L, D.size = L := ⟨_, rfl⟩
  have FI := Lib.hid (fun w1 => fits_new w1 (.int .u8 k) (.int .i64 p) (.int .i64 q) D hL)
  have RS := Lib.hid (fun w1 => ruright_any a n g w1)
  unfold Uv at RS
  have AL := Lib.hid (fun w1 => oalive_any w1)
  have N1 := Lib.hid (fun w1 => oread_nil p q w1)
  have N2 := Lib.hid (fun w1 => ochunk_nil p w1)
  have N3 := Lib.hid (fun w1 => owrite_nil p D w1)
  have N4 := Lib.hid (fun w1 => oput_nil p D w1)
  have N5 := Lib.hid (fun w1 => oflush_nil w1)
  have NW := Lib.hid (fun w1 => Dsk.new_any 0 w1 (by decide))
  obtain ⟨k1, k2, k3, k4, k5, k6⟩ := Um.okU_small hu
  obtain ⟨A, rfl⟩ : ∃ A : Nat, a = (A : Int) := ⟨a.toNat, by omega⟩
  obtain ⟨N, rfl⟩ : ∃ N : Nat, n = (N : Int) := ⟨n.toNat, by omega⟩
  obtain ⟨G, rfl⟩ : ∃ G : Nat, g = (G : Int) := ⟨g.toNat, by omega⟩
  rw [hu] at RS
  have LO := Lib.hid (fun w1 => of_ok (A : Int) (N : Int) (G : Int) w1 hu)
  have ON := Lib.hid (fun w1 => oof_nil (tells_ok hu) w1)
  have OW : Hid (∀ (w1 : World) (d : Dsk.Ob), Dsk.Dk w1 d (Dm.fresh 0) → Calls Try.prog 7 #[.pointer (some ⟨d.p, 0, none⟩), .agg #[.int .i64 (A : Int), .int .i64 (N : Int), .int .i64 (G : Int)]] w1 (NoOrg 2 w1)) := Lib.hid fun w1 d hd => oof_few hd hu (s := 0) rfl (by omega)
  unfold NoOrg at ON OW
  have e1 : decide (300 < (A : Int)) = true := by simpa using hf
  have e2 : decide (300 < A) = true := by simp; omega
  obtain ⟨a0, a1, a2, b0, b1, b2, b3⟩ := hc W0 (Below.refl _ _)
  clear hB hc hu hL hf k1 k2 k3 k4 k5 k6
  go_enter Try.func3, Try.ntmps3
  go_wp2_with fail
  clear hW0
  refine (RS.out _).mono ?_
  rintro e w1 ⟨rfl, hb⟩
  have B1 : Hid (Below W0.heap.size W0 w1) := hb
  clear hb a0 a1 a2 b0 b1 b2 b3 RS
  obtain ⟨a0, a1, a2, b0, b1, b2, b3⟩ := KEEP.out _ B1.out
  go_wp2_with fail
  refine (FI.out _).mono ?_
  rintro e w2 ⟨rfl, hb⟩
  have B2 := Lib.hid (keepB hb B1.out)
  clear hb a0 a1 a2 b0 b1 b2 b3 FI
  obtain ⟨a0, a1, a2, b0, b1, b2, b3⟩ := KEEP.out _ B2.out
  go_wp2_with fail
  refine (LO.out _).mono ?_
  rintro e w3 ⟨rfl, hb⟩
  have B3 := Lib.hid (keepB hb B2.out)
  clear hb a0 a1 a2 b0 b1 b2 b3 LO
  go_upto_region 4 with fail
  obtain ⟨W4, hW4⟩ : ∃ W4, w3.alloc (.cells #[.int .i64 (A : Int), .int .i64 (N : Int), .int .i64 (G : Int)] 30) = W4 := ⟨_, rfl⟩
  obtain ⟨hb4, hy4⟩ := lay_made w3 _ _ _ W4 hW4
  rw [hW4]
  obtain ⟨Y, hY⟩ : ∃ Y, Y = w3.heap.size := ⟨_, rfl⟩
  rw [← hY] at hy4 ⊢
  have B4 := Lib.hid (keepB hb4 B3.out)
  have KY := Lib.hid hy4
  obtain ⟨y0, y1, y2⟩ := hy4 W4 (Below.refl _ _)
  clear hb4 hy4 hY hW4 B1 B2 B3
  go_wp2_with fail
  refine (ON.out _).mono ?_
  rintro e w5 ⟨rfl, hb⟩
  have Q5 : Hid (Below W4.heap.size W4 w5) := hb
  clear hb y0 y1 y2 ON
  obtain ⟨y0, y1, y2⟩ := KY.out _ Q5.out
  go_upto_region 5 with fail
  go_region_held3 (fun w' => w'.cell? ⟨Y, 0, none⟩ = some (.int .i64 (A : Int)) ∧ w'.cell? ⟨Y, 1, none⟩ = some (.int .i64 (N : Int)) ∧ w'.cell? ⟨Y, 2, none⟩ = some (.int .i64 (G : Int)))
    (first | (refine ⟨?_, ?_, ?_⟩ <;> assumption) | go_keep)
    (first
      | (go_at_call 8; refine (NW.out _).mono ?_; rintro e w6 ⟨d6, rfl, hd6, hf6, hb⟩; have Q6 := Lib.hid (keepB (drewB hb) Q5.out); have D6 := Lib.hid hd6; obtain ⟨x0, x1, x2⟩ := KY.out _ Q6.out; clear hb hd6 hf6)
      | (go_at_call 7; refine (OW.out _ _ D6.out).mono ?_; rintro e w7 ⟨rfl, hb⟩; have Q7 := Lib.hid (keepB hb Q6.out); obtain ⟨z0, z1, z2⟩ := KY.out _ Q7.out; clear hb))
  clear y0 y1 y2 x0 x1 x2 NW OW D6
  have B7 := Lib.hid (keepB Q7.out B4.out)
  obtain ⟨a0, a1, a2, b0, b1, b2, b3⟩ := KEEP.out _ B7.out
  go_wp2_with (first
    | (go_at_call 9; refine (N1.out _).mono ?_; rintro e w' ⟨rfl, rfl⟩)
    | (go_at_call 10; refine (N2.out _).mono ?_; rintro e w' ⟨rfl, rfl⟩)
    | (go_at_call 11; refine (N3.out _).mono ?_; rintro e w' ⟨rfl, rfl⟩)
    | (go_at_call 12; refine (N4.out _).mono ?_; rintro e w' ⟨rfl, rfl⟩)
    | (go_at_call 13; refine (N5.out _).mono ?_; rintro e w' ⟨rfl, rfl⟩))
  refine (AL.out _).mono ?_
  rintro e w8 ⟨rfl, hb⟩
  have B8 := Lib.hid (keepB hb B7.out)
  clear hb
  go_wp2_with fail
  go_ret
  exact ⟨rfl, keepB B8.out HB.out⟩
set_option maxHeartbeats 4000000 in
theorem args_long (a n g k p q : Int) (D : ByteArray) (w : World) (hu : Um.okU a n g = true) (hf : a ≤ 300) (hD : 8320 < D.size) :
    Calls Try.prog 3 #[.agg #[.int .i64 a, .int .i64 n, .int .i64 g], .agg #[.int .u8 k, .int .i64 p, .int .i64 q, .string D]] w fun e w' => e = .returned (.bool true) ∧ Below w.heap.size w w' := by
  obtain ⟨W0, hW0⟩ : ∃ W0, (w.alloc (.cells #[.int .i64 a, .int .i64 n, .int .i64 g] 23)).alloc (.cells #[.int .u8 k, .int .i64 p, .int .i64 q, .string D] 25) = W0 := ⟨_, rfl⟩
  obtain ⟨hB, hc⟩ := arg_boxes w _ _ _ _ _ _ _ W0 hW0
  have HB := Lib.hid hB
  have KEEP := Lib.hid hc
  obtain ⟨L, hL⟩ : ∃ L, D.size = L := ⟨_, rfl⟩
  have FI := Lib.hid (fun w1 => fits_new w1 (.int .u8 k) (.int .i64 p) (.int .i64 q) D hL)
  have RS := Lib.hid (fun w1 => ruright_any a n g w1)
  unfold Uv at RS
  have AL := Lib.hid (fun w1 => oalive_any w1)
  have N1 := Lib.hid (fun w1 => oread_nil p q w1)
  have N2 := Lib.hid (fun w1 => ochunk_nil p w1)
  have N3 := Lib.hid (fun w1 => owrite_nil p D w1)
  have N4 := Lib.hid (fun w1 => oput_nil p D w1)
  have N5 := Lib.hid (fun w1 => oflush_nil w1)
  have NW := Lib.hid (fun w1 => Dsk.new_any 0 w1 (by decide))
  obtain ⟨k1, k2, k3, k4, k5, k6⟩ := Um.okU_small hu
  obtain ⟨A, rfl⟩ : ∃ A : Nat, a = (A : Int) := ⟨a.toNat, by omega⟩
  obtain ⟨N, rfl⟩ : ∃ N : Nat, n = (N : Int) := ⟨n.toNat, by omega⟩
  obtain ⟨G, rfl⟩ : ∃ G : Nat, g = (G : Int) := ⟨g.toNat, by omega⟩
  rw [hu] at RS
  have LO := Lib.hid (fun w1 => of_ok (A : Int) (N : Int) (G : Int) w1 hu)
  have ON := Lib.hid (fun w1 => oof_nil (tells_ok hu) w1)
  have OW : Hid (∀ (w1 : World) (d : Dsk.Ob), Dsk.Dk w1 d (Dm.fresh 0) → Calls Try.prog 7 #[.pointer (some ⟨d.p, 0, none⟩), .agg #[.int .i64 (A : Int), .int .i64 (N : Int), .int .i64 (G : Int)]] w1 (NoOrg 2 w1)) := Lib.hid fun w1 d hd => oof_few hd hu (s := 0) rfl (by omega)
  unfold NoOrg at ON OW
  have e1 : decide (300 < (A : Int)) = false := by simpa using hf
  have e2 : decide (300 < A) = false := by simp; omega
  have e3 : decide (L ≤ 8320) = false := by simp; omega
  rw [e3] at FI
  obtain ⟨a0, a1, a2, b0, b1, b2, b3⟩ := hc W0 (Below.refl _ _)
  clear hB hc hu hL hf hD k1 k2 k3 k4 k5 k6
  go_enter Try.func3, Try.ntmps3
  go_wp2_with fail
  clear hW0
  refine (RS.out _).mono ?_
  rintro e w1 ⟨rfl, hb⟩
  have B1 : Hid (Below W0.heap.size W0 w1) := hb
  clear hb a0 a1 a2 b0 b1 b2 b3 RS
  obtain ⟨a0, a1, a2, b0, b1, b2, b3⟩ := KEEP.out _ B1.out
  go_wp2_with fail
  refine (FI.out _).mono ?_
  rintro e w2 ⟨rfl, hb⟩
  have B2 := Lib.hid (keepB hb B1.out)
  clear hb a0 a1 a2 b0 b1 b2 b3 FI
  obtain ⟨a0, a1, a2, b0, b1, b2, b3⟩ := KEEP.out _ B2.out
  go_wp2_with fail
  refine (LO.out _).mono ?_
  rintro e w3 ⟨rfl, hb⟩
  have B3 := Lib.hid (keepB hb B2.out)
  clear hb a0 a1 a2 b0 b1 b2 b3 LO
  go_upto_region 4 with fail
  obtain ⟨W4, hW4⟩ : ∃ W4, w3.alloc (.cells #[.int .i64 (A : Int), .int .i64 (N : Int), .int .i64 (G : Int)] 30) = W4 := ⟨_, rfl⟩
  obtain ⟨hb4, hy4⟩ := lay_made w3 _ _ _ W4 hW4
  rw [hW4]
  obtain ⟨Y, hY⟩ : ∃ Y, Y = w3.heap.size := ⟨_, rfl⟩
  rw [← hY] at hy4 ⊢
  have B4 := Lib.hid (keepB hb4 B3.out)
  have KY := Lib.hid hy4
  obtain ⟨y0, y1, y2⟩ := hy4 W4 (Below.refl _ _)
  clear hb4 hy4 hY hW4 B1 B2 B3
  go_wp2_with fail
  refine (ON.out _).mono ?_
  rintro e w5 ⟨rfl, hb⟩
  have Q5 : Hid (Below W4.heap.size W4 w5) := hb
  clear hb y0 y1 y2 ON
  obtain ⟨y0, y1, y2⟩ := KY.out _ Q5.out
  go_upto_region 5 with fail
  go_region_held3 (fun w' => w'.cell? ⟨Y, 0, none⟩ = some (.int .i64 (A : Int)) ∧ w'.cell? ⟨Y, 1, none⟩ = some (.int .i64 (N : Int)) ∧ w'.cell? ⟨Y, 2, none⟩ = some (.int .i64 (G : Int)))
    (first | (refine ⟨?_, ?_, ?_⟩ <;> assumption) | go_keep)
    (first
      | (go_at_call 8; refine (NW.out _).mono ?_; rintro e w6 ⟨d6, rfl, hd6, hf6, hb⟩; have Q6 := Lib.hid (keepB (drewB hb) Q5.out); have D6 := Lib.hid hd6; obtain ⟨x0, x1, x2⟩ := KY.out _ Q6.out; clear hb hd6 hf6)
      | (go_at_call 7; refine (OW.out _ _ D6.out).mono ?_; rintro e w7 ⟨rfl, hb⟩; have Q7 := Lib.hid (keepB hb Q6.out); obtain ⟨z0, z1, z2⟩ := KY.out _ Q7.out; clear hb))
  clear y0 y1 y2 x0 x1 x2 NW OW D6
  have B7 := Lib.hid (keepB Q7.out B4.out)
  obtain ⟨a0, a1, a2, b0, b1, b2, b3⟩ := KEEP.out _ B7.out
  go_wp2_with (first
    | (go_at_call 9; refine (N1.out _).mono ?_; rintro e w' ⟨rfl, rfl⟩)
    | (go_at_call 10; refine (N2.out _).mono ?_; rintro e w' ⟨rfl, rfl⟩)
    | (go_at_call 11; refine (N3.out _).mono ?_; rintro e w' ⟨rfl, rfl⟩)
    | (go_at_call 12; refine (N4.out _).mono ?_; rintro e w' ⟨rfl, rfl⟩)
    | (go_at_call 13; refine (N5.out _).mono ?_; rintro e w' ⟨rfl, rfl⟩))
  refine (AL.out _).mono ?_
  rintro e w8 ⟨rfl, hb⟩
  have B8 := Lib.hid (keepB hb B7.out)
  clear hb
  go_wp2_with fail
  go_ret
  exact ⟨rfl, keepB B8.out HB.out⟩
set_option maxHeartbeats 4000000 in
theorem args_yes (a n g k p q : Int) (D : ByteArray) (w : World) (hu : Um.okU a n g = true) (hf : a ≤ 300) (hD : D.size ≤ 8320) :
    Calls Try.prog 3 #[.agg #[.int .i64 a, .int .i64 n, .int .i64 g], .agg #[.int .u8 k, .int .i64 p, .int .i64 q, .string D]] w fun e w' => e = .returned (.bool true) ∧ Below w.heap.size w w' := by
  obtain ⟨W0, hW0⟩ : ∃ W0, (w.alloc (.cells #[.int .i64 a, .int .i64 n, .int .i64 g] 23)).alloc (.cells #[.int .u8 k, .int .i64 p, .int .i64 q, .string D] 25) = W0 := ⟨_, rfl⟩
  obtain ⟨hB, hc⟩ := arg_boxes w _ _ _ _ _ _ _ W0 hW0
  have HB := Lib.hid hB
  have KEEP := Lib.hid hc
  obtain ⟨L, hL⟩ : ∃ L, D.size = L := ⟨_, rfl⟩
  have FI := Lib.hid (fun w1 => fits_new w1 (.int .u8 k) (.int .i64 p) (.int .i64 q) D hL)
  have RS := Lib.hid (fun w1 => ruright_any a n g w1)
  unfold Uv at RS
  have AL := Lib.hid (fun w1 => oalive_any w1)
  have N1 := Lib.hid (fun w1 => oread_nil p q w1)
  have N2 := Lib.hid (fun w1 => ochunk_nil p w1)
  have N3 := Lib.hid (fun w1 => owrite_nil p D w1)
  have N4 := Lib.hid (fun w1 => oput_nil p D w1)
  have N5 := Lib.hid (fun w1 => oflush_nil w1)
  have NW := Lib.hid (fun w1 => Dsk.new_any 0 w1 (by decide))
  obtain ⟨k1, k2, k3, k4, k5, k6⟩ := Um.okU_small hu
  obtain ⟨A, rfl⟩ : ∃ A : Nat, a = (A : Int) := ⟨a.toNat, by omega⟩
  obtain ⟨N, rfl⟩ : ∃ N : Nat, n = (N : Int) := ⟨n.toNat, by omega⟩
  obtain ⟨G, rfl⟩ : ∃ G : Nat, g = (G : Int) := ⟨g.toNat, by omega⟩
  rw [hu] at RS
  have LO := Lib.hid (fun w1 => of_ok (A : Int) (N : Int) (G : Int) w1 hu)
  have ON := Lib.hid (fun w1 => oof_nil (tells_ok hu) w1)
  have OW : Hid (∀ (w1 : World) (d : Dsk.Ob), Dsk.Dk w1 d (Dm.fresh 0) → Calls Try.prog 7 #[.pointer (some ⟨d.p, 0, none⟩), .agg #[.int .i64 (A : Int), .int .i64 (N : Int), .int .i64 (G : Int)]] w1 (NoOrg 2 w1)) := Lib.hid fun w1 d hd => oof_few hd hu (s := 0) rfl (by omega)
  unfold NoOrg at ON OW
  have e1 : decide (300 < (A : Int)) = false := by simpa using hf
  have e2 : decide (300 < A) = false := by simp; omega
  have e3 : decide (L ≤ 8320) = true := by simp; omega
  rw [e3] at FI
  have NA := Lib.hid (fun w1 => Dsk.new_any A w1 (by omega))
  have OO : Hid (∀ (w1 : World) (d : Dsk.Ob), Dsk.Dk w1 d (Dm.fresh A) → Calls Try.prog 7 #[.pointer (some ⟨d.p, 0, none⟩), .agg #[.int .i64 (A : Int), .int .i64 (N : Int), .int .i64 (G : Int)]] w1 (MadeO N G d (Dm.fresh A) w1)) := Lib.hid fun w1 d hd => oof_ok hd hu (s := A) (List.length_replicate ..) (Nat.le_refl _)
  obtain ⟨a0, a1, a2, b0, b1, b2, b3⟩ := hc W0 (Below.refl _ _)
  clear hB hc hu hL hf hD k1 k2 k3 k4 k5 k6
  go_enter Try.func3, Try.ntmps3
  go_wp2_with fail
  clear hW0
  refine (RS.out _).mono ?_
  rintro e w1 ⟨rfl, hb⟩
  have B1 : Hid (Below W0.heap.size W0 w1) := hb
  clear hb a0 a1 a2 b0 b1 b2 b3 RS
  obtain ⟨a0, a1, a2, b0, b1, b2, b3⟩ := KEEP.out _ B1.out
  go_wp2_with fail
  refine (FI.out _).mono ?_
  rintro e w2 ⟨rfl, hb⟩
  have B2 := Lib.hid (keepB hb B1.out)
  clear hb a0 a1 a2 b0 b1 b2 b3 FI
  obtain ⟨a0, a1, a2, b0, b1, b2, b3⟩ := KEEP.out _ B2.out
  go_wp2_with fail
  refine (LO.out _).mono ?_
  rintro e w3 ⟨rfl, hb⟩
  have B3 := Lib.hid (keepB hb B2.out)
  clear hb a0 a1 a2 b0 b1 b2 b3 LO
  go_upto_region 4 with fail
  obtain ⟨W4, hW4⟩ : ∃ W4, w3.alloc (.cells #[.int .i64 (A : Int), .int .i64 (N : Int), .int .i64 (G : Int)] 30) = W4 := ⟨_, rfl⟩
  obtain ⟨hb4, hy4⟩ := lay_made w3 _ _ _ W4 hW4
  rw [hW4]
  obtain ⟨Y, hY⟩ : ∃ Y, Y = w3.heap.size := ⟨_, rfl⟩
  rw [← hY] at hy4 ⊢
  have B4 := Lib.hid (keepB hb4 B3.out)
  have KY := Lib.hid hy4
  obtain ⟨y0, y1, y2⟩ := hy4 W4 (Below.refl _ _)
  clear hb4 hy4 hY hW4 B1 B2 B3
  go_wp2_with fail
  refine (ON.out _).mono ?_
  rintro e w5 ⟨rfl, hb⟩
  have Q5 : Hid (Below W4.heap.size W4 w5) := hb
  clear hb y0 y1 y2 ON
  obtain ⟨y0, y1, y2⟩ := KY.out _ Q5.out
  go_upto_region 5 with fail
  go_region_held3 (fun w' => w'.cell? ⟨Y, 0, none⟩ = some (.int .i64 (A : Int)) ∧ w'.cell? ⟨Y, 1, none⟩ = some (.int .i64 (N : Int)) ∧ w'.cell? ⟨Y, 2, none⟩ = some (.int .i64 (G : Int)))
    (first | (refine ⟨?_, ?_, ?_⟩ <;> assumption) | go_keep)
    (first
      | (go_at_call 8; refine (NW.out _).mono ?_; rintro e w6 ⟨d6, rfl, hd6, hf6, hb⟩; have Q6 := Lib.hid (keepB (drewB hb) Q5.out); have D6 := Lib.hid hd6; obtain ⟨x0, x1, x2⟩ := KY.out _ Q6.out; clear hb hd6 hf6)
      | (go_at_call 7; refine (OW.out _ _ D6.out).mono ?_; rintro e w7 ⟨rfl, hb⟩; have Q7 := Lib.hid (keepB hb Q6.out); obtain ⟨z0, z1, z2⟩ := KY.out _ Q7.out; clear hb))
  clear y0 y1 y2 x0 x1 x2 NW OW D6
  have B7 := Lib.hid (keepB Q7.out B4.out)
  obtain ⟨a0, a1, a2, b0, b1, b2, b3⟩ := KEEP.out _ B7.out
  go_wp2_with (first
    | (go_at_call 9; refine (N1.out _).mono ?_; rintro e w' ⟨rfl, rfl⟩)
    | (go_at_call 10; refine (N2.out _).mono ?_; rintro e w' ⟨rfl, rfl⟩)
    | (go_at_call 11; refine (N3.out _).mono ?_; rintro e w' ⟨rfl, rfl⟩)
    | (go_at_call 12; refine (N4.out _).mono ?_; rintro e w' ⟨rfl, rfl⟩)
    | (go_at_call 13; refine (N5.out _).mono ?_; rintro e w' ⟨rfl, rfl⟩))
  refine (NA.out _).mono ?_
  rintro e w8 ⟨d, rfl, hd, hf, hb⟩
  have Q8 := Lib.hid (keepB hb Q7.out)
  have B8 := Lib.hid (keepB hb B7.out)
  have D8 : Hid (Dsk.Dk w8 d (Dm.fresh A) ∧ ∀ k, d.fp k → W0.heap.size ≤ k) := Lib.hid ⟨hd, fun k hk => Nat.le_trans B7.out.size (hf k hk)⟩
  have OK : Hid (Calls Try.prog 7 #[.pointer (some ⟨d.p, 0, none⟩), .agg #[.int .i64 (A : Int), .int .i64 (N : Int), .int .i64 (G : Int)]] w8 (MadeO N G d (Dm.fresh A) w8)) := Lib.hid (OO.out _ _ hd)
  unfold MadeO at OK
  clear hd hf hb a0 a1 a2 b0 b1 b2 b3 z0 z1 z2 NA OO
  obtain ⟨y0, y1, y2⟩ := KY.out _ Q8.out
  go_wp2_with fail
  refine OK.out.mono ?_
  rintro e w9 ⟨o, rfl, hg, hod, hq, hb⟩
  have B9 := Lib.hid (keepB hb B8.out)
  have G9 : Hid (Gk w9 o N G (Dm.fresh A) ∧ (∀ k, o.fp k → W0.heap.size ≤ k) ∧ o.d.p = d.p) := Lib.hid ⟨hg, fun k hk => by
    rcases hk with rfl | hk
    · exact Nat.le_trans B8.out.size hq
    · rw [hod] at hk; exact D8.out.2 k hk, by rw [hod]⟩
  have FL : Hid (Calls Try.prog 15 #[.pointer (some ⟨d.p, 0, none⟩), .int .i64 0] w9 fun e w' => e = .returned (.tuple #[]) ∧ ∃ o', Gk w' o' N G (Dm.fail (Dm.fresh A) 0) ∧ o'.q = o.q ∧ o'.d.p = d.p ∧ (∀ k, o'.fp k → W0.heap.size ≤ k) ∧ Below W0.heap.size W0 w') := Lib.hid (by
    rw [← hod]
    refine (Dsk.fail_any hg.dk 0 (by decide) (by decide)).mono ?_
    rintro e w' ⟨he, d', hd', hs'⟩
    obtain ⟨h1, h2⟩ := hg.disk hd' hs' rfl
    exact ⟨he, _, h1, rfl, hs'.p.trans rfl, fun k hk => (h2.fp k hk).elim (G9.out.2.1 k) (Nat.le_trans B9.out.size), B9.out.trans (h2.fr.below B9.out.size G9.out.2.1)⟩)
  clear hg hod hq hb y0 y1 y2 OK D8
  go_wp2_with fail
  refine FL.out.mono ?_
  rintro e w10 ⟨rfl, o2, hg, hq, hdp, hfp, hb⟩
  have G10 := Lib.hid hg
  have FU : Hid (Calls Try.prog 16 #[.pointer (some ⟨d.p, 0, none⟩)] w10 fun e w' => ∃ x, e = .returned (.int .i64 x) ∧ ∃ o', Gk w' o' N G (dd A) ∧ o'.q = o.q ∧ (∀ k, o'.fp k → W0.heap.size ≤ k) ∧ Below W0.heap.size W0 w') := Lib.hid (by
    rw [← hdp]
    refine (Dsk.flush_any hg.dk (by show ([] : List (Nat × List UInt8)).length ≤ _; simp)).mono ?_
    rintro e w' ⟨he, d', hd', hs'⟩
    obtain ⟨h1, h2⟩ := hg.disk hd' hs' (by show (dd A).S.length = _; rw [dd_S]; exact (List.length_replicate ..).symm)
    exact ⟨_, he, _, h1, hq, fun k hk => (h2.fp k hk).elim (hfp k) (Nat.le_trans hb.size), hb.trans (h2.fr.below hb.size hfp)⟩)
  clear hg hq hdp hfp hb FL G9 G10
  go_wp2_with fail
  refine FU.out.mono ?_
  rintro e w11 ⟨x, rfl, o3, hg, hq, hfp, hb⟩
  have B11 := Lib.hid hb
  have RD : Hid (∃ X, Calls Try.prog 9 #[.pointer (some ⟨o.q, 0, none⟩), .int .i64 0, .int .i64 1] w11 fun e w' => e = .returned (.tuple #[.string (Om.B X), .int .i64 41]) ∧ Below w11.heap.size w11 w') := Lib.hid (by
    have := oread_any hg 0 1 (by decide) (by rw [dd_P]; decide)
    have e : rE N (dd A) 0 1 = 41 := by
      unfold rE
      rw [if_pos (hasB_iff.2 ⟨by decide, by decide, by have := hg.small; omega⟩)]
      exact dd_read _ _ _
    rw [e, hq] at this
    exact ⟨_, this⟩)
  have CH : Hid (∀ w12, Below w11.heap.size w11 w12 → ∃ X, Calls Try.prog 10 #[.pointer (some ⟨o.q, 0, none⟩), .int .i64 0] w12 fun e w' => e = .returned (.tuple #[.string (Om.B X), .int .i64 41]) ∧ Below w12.heap.size w12 w') := Lib.hid fun w12 hb2 => by
    have hp : 0 < Em.parts N G := (Em.parts_lt (by have := hg.small; omega)).2 (by have := hg.small; omega)
    have := ochunk_yes (hg.below hb2) 0 hp (by rw [dd_P]; decide)
    have e : cE N G (dd A) 0 = 41 := dd_read _ _ _
    rw [e, hq] at this
    exact ⟨_, this⟩
  have OF : Hid (∀ w12, Below w11.heap.size w11 w12 → Calls Try.prog 13 #[.pointer (some ⟨o.q, 0, none⟩)] w12 fun e w' => e = .returned (.int .i64 41) ∧ Below W0.heap.size W0 w') := Lib.hid fun w12 hb2 => by
    have := oflush_any (hg.below hb2) (by rw [dd_P]; decide)
    rw [dd_flush, hq] at this
    refine this.mono ?_
    rintro e w' ⟨he, o', h1, h2⟩
    have h3 := keepB hb2 B11.out
    exact ⟨he, h3.trans (h2.fr.below h3.size hfp)⟩
  clear hg hq hfp hb FU
  obtain ⟨X1, hX1⟩ := RD.out
  have RX := Lib.hid hX1
  clear hX1 RD
  go_wp2_with fail
  refine RX.out.mono ?_
  rintro e w12 ⟨rfl, hb⟩
  have K12 := Lib.hid hb
  obtain ⟨X2, hX2⟩ := CH.out w12 hb
  have CX := Lib.hid hX2
  clear hb hX2 CH RX
  go_wp2_with fail
  refine CX.out.mono ?_
  rintro e w13 ⟨rfl, hb⟩
  have K13 := Lib.hid (keepB hb K12.out)
  clear hb CX
  go_wp2_with fail
  refine (AL.out _).mono ?_
  rintro e w14 ⟨rfl, hb⟩
  have K14 := Lib.hid (keepB hb K13.out)
  clear hb
  go_wp2_with fail
  refine (OF.out _ K14.out).mono ?_
  rintro e w15 ⟨rfl, hb⟩
  have FB := Lib.hid (HB.out.trans (hb.mono HB.out.size))
  clear hb
  go_wp2_with fail
  go_ret
  exact ⟨rfl, FB.out⟩
theorem args_any (a n g k p q : Int) (D : ByteArray) (w : World) :
    Calls Try.prog 3 #[.agg #[.int .i64 a, .int .i64 n, .int .i64 g], .agg #[.int .u8 k, .int .i64 p, .int .i64 q, .string D]] w fun e w' => e = .returned (.bool true) ∧ Below w.heap.size w w' := by
  cases hu : Um.okU a n g with
  | false => exact args_no a n g k p q D w hu
  | true =>
    by_cases h1 : a ≤ 300
    · by_cases h2 : D.size ≤ 8320
      · exact args_yes a n g k p q D w hu h1 h2
      · exact args_long a n g k p q D w hu h1 (by omega)
    · exact args_far a n g k p q D w hu (by omega)
end Og
end Go.Proofs.Ytbmabcddciibfaa