/- The document's own superblocks: EncodeSlot, DecodeSlot. -/
import Derived.Test.YtncbimgbjkdocaaSuperDec
import Derived.Test.YtncbimgbjkdocaaSuperRCode
import Derived.Test.YtncbimgbjkdocaaSecRef
namespace Go.Proofs.Ytncbimgbjkdocaa
open Go.RowKit
set_option maxRecDepth 100000
set_option linter.unusedVariables false

theorem ruenc_no (a n g : Int) (w : World) (hok : Um.okU a n g = false) :
    Calls Try.prog 7 #[Uv a n g] w fun e w' => e = .returned (.tuple #[.string (Om.B []), .int .i64 1]) ∧ Below w.heap.size w w' := by
  have R := Lib.hid (fun w1 => ruright_any a n g w1)
  rw [hok] at R
  have BX := Lib.hid (ux_alloc w a n g 23)
  have HB : Hid (Below w.heap.size w (w.alloc (.cells #[.int .i64 a, .int .i64 n, .int .i64 g] 23))) := (Below.refl _ w).alloc (Nat.le_refl _) _
  unfold Uv at R ⊢
  clear hok
  go_enter Try.func7, Try.ntmps7
  go_wp2_with fail
  refine (R.out _).mono ?_
  rintro e w1 ⟨rfl, hb⟩
  have HB1 := Lib.hid (HB.out.trans (hb.mono HB.out.size))
  clear hb
  go_wp2
  go_ret2
  exact ⟨rfl, HB1.out⟩

theorem rsupers_at (w : World) : Calls Try.prog 17 #[] w fun e w' => ∃ k, e = .returned (.slice (some ⟨k, 0, none⟩) 3 3) ∧ Row w' w'.heap.size (some ⟨k, 0, none⟩) 3 (szs Um.zs) ∧ Below w.heap.size w w' :=
  (rsupers_any w).mono fun e w' h => ⟨w.heap.size, h⟩

theorem rusealed_at (a n g : Nat) (hok : Um.okU a n g = true) (W : World) (ks : Nat) (hr : Row W W.heap.size (some ⟨ks, 0, none⟩) 3 (szs Um.zs)) :
    Calls Try.prog 16 #[.string ⟨#[79, 65, 75, 49]⟩, .slice (some ⟨ks, 0, none⟩) 3 3, .slice (some ⟨W.heap.size, 0, none⟩) 3 3] (W.alloc (ucell a n g)) fun e w' => e = .returned (.string (Om.B (Um.sector a n g))) ∧ Below W.heap.size W w' := by
  obtain ⟨k1, k2, k3, k4, k5, k6⟩ := Um.okU_small hok
  have hb : Below W.heap.size W (W.alloc (ucell a n g)) := (Below.refl _ W).alloc (Nat.le_refl _) _
  have hl : (Um.nums a n g).length = 3 := rfl
  refine (rsealed_any Um.lay (Um.nums a n g) _ _ _ 3 3 3 _ rfl hl (by omega) (Nat.le_refl _) ((hr.below hb).more hb.size) (unums_row a n g W (by omega) (by omega) (by omega)) (unums_lt a n g (by omega) (by omega) (by omega)) (Um.fit a n g hok)).mono ?_
  rintro e w' ⟨he, hb'⟩
  exact ⟨he, hb.trans (hb'.mono hb.size)⟩
theorem rusealed_two (a n g : Nat) (hok : Um.okU a n g = true) (W : World) (ks kn : Nat) (hr : Row W W.heap.size (some ⟨ks, 0, none⟩) 3 (szs Um.zs)) (hn : Row W W.heap.size (some ⟨kn, 0, none⟩) 3 (nbs (Um.nums a n g))) :
    Calls Try.prog 16 #[.string ⟨#[79, 65, 75, 49]⟩, .slice (some ⟨ks, 0, none⟩) 3 3, .slice (some ⟨kn, 0, none⟩) 3 3] W fun e w' => e = .returned (.string (Om.B (Um.sector a n g))) ∧ Below W.heap.size W w' := by
  obtain ⟨k1, k2, k3, k4, k5, k6⟩ := Um.okU_small hok
  have hl : (Um.nums a n g).length = 3 := rfl
  refine (rsealed_any Um.lay (Um.nums a n g) _ _ _ 3 3 3 _ rfl hl (by omega) (Nat.le_refl _) hr hn (unums_lt a n g (by omega) (by omega) (by omega)) (Um.fit a n g hok)).mono ?_
  rintro e w' ⟨he, hb'⟩
  exact ⟨he, hb'⟩

set_option maxHeartbeats 800000 in
theorem ruenc_ok (a n g : Nat) (w : World) (hok : Um.okU a n g = true) :
    Calls Try.prog 7 #[Uv a n g] w fun e w' => e = .returned (.tuple #[.string (Om.B (Um.sector a n g)), .int .i64 0]) ∧ Below w.heap.size w w' := by
  obtain ⟨k1, k2, k3, k4, k5, k6⟩ := Um.okU_small hok
  have R := Lib.hid (fun w1 => ruright_any a n g w1)
  rw [hok] at R
  have BX0 := Lib.hid (ux_alloc w a n g 23)
  have HB : Hid (Below w.heap.size w (w.alloc (.cells #[.int .i64 (a : Int), .int .i64 (n : Int), .int .i64 (g : Int)] 23))) := (Below.refl _ w).alloc (Nat.le_refl _) _
  obtain ⟨W0, hW0⟩ : ∃ W0, w.alloc (.cells #[.int .i64 (a : Int), .int .i64 (n : Int), .int .i64 (g : Int)] 23) = W0 := ⟨_, rfl⟩
  rw [hW0] at HB BX0
  obtain ⟨lt0, a0, a1, a2⟩ := BX0.out
  have SZ := Lib.hid rsupers_at
  have J := Lib.hid (rusealed_at a n g hok)
  have J2 := Lib.hid (rusealed_two a n g hok)
  have M := Lib.hid (fun (w1 w2 : World) => umade_first (w1 := w1) (w2 := w2) hok)
  unfold ucell at J M
  unfold Uv at R ⊢
  clear hok
  go_enter Try.func7, Try.ntmps7
  go_wp2_with fail
  clear hW0
  refine (R.out _).mono ?_
  rintro e w1 ⟨rfl, hb⟩
  have HB1 := Lib.hid (HB.out.trans (hb.mono HB.out.size))
  have BX1 := Lib.hid (BX0.out.next hb)
  clear hb a0 a1 a2 lt0
  obtain ⟨lt1, a0, a1, a2⟩ := BX1.out
  go_wp2
  go_region_held3 (fun w' => w'.cell? ⟨w.heap.size, 0, none⟩ = some (.int .i64 (a : Int)) ∧ w'.cell? ⟨w.heap.size, 1, none⟩ = some (.int .i64 (n : Int)) ∧ w'.cell? ⟨w.heap.size, 2, none⟩ = some (.int .i64 (g : Int)))
    (first | go_keep | (refine ⟨?_, ?_, ?_⟩ <;> assumption) | (exact ⟨(BX.out.cell (p := ⟨w.heap.size, 0, none⟩) lt1).trans a0, (BX.out.cell (p := ⟨w.heap.size, 1, none⟩) lt1).trans a1, (BX.out.cell (p := ⟨w.heap.size, 2, none⟩) lt1).trans a2⟩))
    (first | (go_at_call 17; refine (SZ.out _).mono ?_; rintro e w2 ⟨ks, rfl, hr2, hb2⟩; have BX : Hid (Below w1.heap.size w1 w2) := (Below.refl _ _).drew.trans hb2; have HR2 := Lib.hid hr2; clear hb2 hr2) | (go_at_call 17; refine (SZ.out _).mono ?_; rintro e w2 ⟨ks, rfl, hr2, hb2⟩; have NR := Lib.hid (M.out _ _ hb2).1; have BX := Lib.hid (M.out _ _ hb2).2; have HR2 := Lib.hid hr2; clear hb2 hr2) | (go_at_call 16; refine (J2.out _ _ _ HR2.out NR.out).mono ?_; rintro e w4 ⟨rfl, hb4⟩; have BY := BX; have BX : Hid (Below w1.heap.size w1 w4) := BY.out.trans (hb4.mono BY.out.size); clear hb4) | (go_at_call 16; refine (J.out _ _ HR2.out).mono ?_; rintro e w4 ⟨rfl, hb4⟩; have BY := BX; have BX : Hid (Below w1.heap.size w1 w4) := BY.out.trans (hb4.mono BY.out.size); clear hb4))
  all_goals
    clear a0 a1 a2
    go_wp2
    go_ret2
    exact ⟨rfl, HB1.out.trans (BX.out.mono HB1.out.size)⟩
/-- Encode, of any superblock. -/
theorem ruenc_any (a n g : Int) (w : World) :
    Calls Try.prog 7 #[Uv a n g] w fun e w' => e = .returned (.tuple #[.string (Om.B (Um.encS a n g)), .int .i64 (Um.encE a n g)]) ∧ Below w.heap.size w w' := by
  cases hok : Um.okU a n g with
  | false =>
    rw [(Um.enc_no hok).1, (Um.enc_no hok).2]
    exact ruenc_no a n g w hok
  | true =>
    rw [(Um.enc_ok hok).1, (Um.enc_ok hok).2]
    obtain ⟨k1, k2, k3, k4, k5, k6⟩ := Um.okU_small hok
    obtain ⟨a', rfl⟩ : ∃ m : Nat, a = (m : Int) := ⟨a.toNat, by omega⟩
    obtain ⟨n', rfl⟩ : ∃ m : Nat, n = (m : Int) := ⟨n.toNat, by omega⟩
    obtain ⟨g', rfl⟩ : ∃ m : Nat, g = (m : Int) := ⟨g.toNat, by omega⟩
    exact ruenc_ok a' n' g' w hok
theorem rudec_no (s : List UInt8) (x : Int) (w : World) (h : Sc.opE Um.ts Um.zs s = x) (hx : x ≠ 0) : Calls Try.prog 12 #[.string (Om.B s)] w (UDec s w) := by
  have HD := Lib.hid (Um.dec_off s x h hx)
  have O : Hid (∀ w1 a, Row w1 w1.heap.size a 3 (szs Um.zs) → Calls Try.prog 21 #[.string (Om.B s), .string ⟨#[79, 65, 75, 49]⟩, .slice a 3 3] w1 (OpNo x w1)) := fun w1 a hr =>
    (ropened_any Um.lay s _ a 3 3 w1 rfl (by omega) (Nat.le_refl _) hr).mono fun e w' he => by
      rcases he with he | he
      · rw [← h]; exact he.2
      · exact absurd (h.symm.trans he.1) hx
  unfold OpNo at O
  have hd : (x != 0) = true := by simpa using hx
  obtain ⟨W0, hW0⟩ : ∃ W0, w.alloc (.cells #[.int .i64 0, .int .i64 0, .int .i64 0] 23) = W0 := ⟨_, rfl⟩
  obtain ⟨hB, h0, lt⟩ := uresult_made w W0 hW0
  have HB := Lib.hid hB
  have H0 := Lib.hid h0
  have LT := Lib.hid lt
  have SZ := Lib.hid rsupers_at
  clear h hx hB h0 lt
  go_enter Try.func12, Try.ntmps12
  go_wp2_with fail
  clear hW0
  refine (SZ.out _).mono ?_
  rintro e w1 ⟨ks, rfl, hr1, hb1⟩
  have B1 := Lib.hid hb1
  have HR1 := Lib.hid hr1
  clear hb1 hr1
  go_wp2_with fail
  refine (O.out _ _ HR1.out).mono ?_
  rintro e w2 ⟨rfl, hb2⟩
  have B2 := Lib.hid (B1.out.trans (hb2.mono B1.out.size))
  have h2 := (B2.out.block _ LT.out).trans H0.out
  have H2 := Lib.hid h2
  have HB2 := Lib.hid (HB.out.trans (B2.out.mono HB.out.size))
  obtain ⟨z0, z1, z2, zf⟩ := uzero_cells h2
  clear hb2 h2
  go_wp2
  refine bodyPost_ret (results_super (p := 2) (u := 3) rfl _ _ w.heap.size _ _ _ _ rfl rfl (three_set H2.out _ _ _)) rfl ?_
  exact udec_none s w _ x HD.out (below_three HB2.out (Nat.le_refl _) _ _ _)

set_option maxHeartbeats 800000 in
theorem rudec_yes (s : List UInt8) (w : World) (h : Sc.opE Um.ts Um.zs s = 0) : Calls Try.prog 12 #[.string (Om.B s)] w (UDec s w) := by
  have HF := Lib.hid (Um.dec_form s h)
  have HK := Lib.hid (Um.dec_ok s h)
  have O : Hid (∀ w1 a, Row w1 w1.heap.size a 3 (szs Um.zs) → Calls Try.prog 21 #[.string (Om.B s), .string ⟨#[79, 65, 75, 49]⟩, .slice a 3 3] w1 (OpOk Um.zs 3 s w1)) := fun w1 a hr =>
    (ropened_any Um.lay s _ a 3 3 w1 rfl (by omega) (Nat.le_refl _) hr).mono fun e w' he => by
      rcases he with he | he
      · exact absurd h he.1
      · exact he.2
  unfold OpOk at O
  have l0 := Um.sectors_lt s
  have l1 := Um.origin_lt s
  have l2 := Um.chunk_lt s
  have R' := fun w1 => ruright_any (Sc.numAt Um.zs s 0) (Sc.numAt Um.zs s 1) (Sc.numAt Um.zs s 2) w1
  obtain ⟨n0, hn0⟩ : ∃ n, n = Sc.numAt Um.zs s 0 := ⟨_, rfl⟩
  obtain ⟨n1, hn1⟩ : ∃ n, n = Sc.numAt Um.zs s 1 := ⟨_, rfl⟩
  obtain ⟨n2, hn2⟩ : ∃ n, n = Sc.numAt Um.zs s 2 := ⟨_, rfl⟩
  have N0 := Lib.hid hn0
  have N1 := Lib.hid hn1
  have N2 := Lib.hid hn2
  rw [← hn0, ← hn1, ← hn2] at HF HK R'
  rw [← hn0] at l0
  rw [← hn1] at l1
  rw [← hn2] at l2
  have R := Lib.hid R'
  obtain ⟨ok, hok⟩ : ∃ ok, ok = Um.okU n0 n1 n2 := ⟨_, rfl⟩
  unfold Um.okN at HF HK
  rw [← hok] at R HF HK
  unfold Uv at R
  have e0 : IntKind.i64.wrap (n0 : Int) = (n0 : Int) := IntWalk.i64_in _ (by omega)
  have e1 : IntKind.i64.wrap (n1 : Int) = (n1 : Int) := IntWalk.i64_in _ (by omega)
  have e2 : IntKind.i64.wrap (n2 : Int) = (n2 : Int) := IntWalk.i64_in _ (by omega)
  obtain ⟨W0, hW0⟩ : ∃ W0, w.alloc (.cells #[.int .i64 0, .int .i64 0, .int .i64 0] 23) = W0 := ⟨_, rfl⟩
  obtain ⟨hB, h0, lt⟩ := uresult_made w W0 hW0
  have HB := Lib.hid hB
  have H0 := Lib.hid h0
  have LT := Lib.hid lt
  have SZ := Lib.hid rsupers_at
  clear h hB h0 lt hn0 hn1 hn2 R' hok
  go_enter Try.func12, Try.ntmps12
  go_wp2_with fail
  clear hW0
  refine (SZ.out _).mono ?_
  rintro e w1 ⟨ks, rfl, hr1, hb1⟩
  have B1 := Lib.hid hb1
  have HR1 := Lib.hid hr1
  clear hb1 hr1
  go_wp2_with fail
  refine (O.out _ _ HR1.out).mono ?_
  rintro e w2 ⟨a2, k2, rfl, hr2, hb2⟩
  have B2 := Lib.hid (B1.out.trans (hb2.mono B1.out.size))
  obtain ⟨ab, ao, rfl, hab, hac⟩ := hr2 (by omega)
  have c0 : w2.cell? ⟨ab, ao, none⟩ = some (.int .u64 (n0 : Int)) := by rw [N0.out]; exact hac 0 (by omega)
  have c1 : w2.cell? ⟨ab, ao + 1, none⟩ = some (.int .u64 (n1 : Int)) := by rw [N1.out]; exact hac 1 (by omega)
  have c2 : w2.cell? ⟨ab, ao + 2, none⟩ = some (.int .u64 (n2 : Int)) := by rw [N2.out]; exact hac 2 (by omega)
  clear hb2 hr2 hac
  go_wp2_with fail
  go_region_held3 (fun w' => w'.cell? ⟨ab, ao, none⟩ = some (.int .u64 (n0 : Int)) ∧ w'.cell? ⟨ab, ao + 1, none⟩ = some (.int .u64 (n1 : Int)) ∧ w'.cell? ⟨ab, ao + 2, none⟩ = some (.int .u64 (n2 : Int)))
    (first | go_keep | (refine ⟨?_, ?_, ?_⟩ <;> assumption))
    (first | fail)
  obtain ⟨W3, hW3⟩ : ∃ W3, (w2.alloc (.cells #[.int .i64 (n0 : Int), .int .i64 (n1 : Int), .int .i64 (n2 : Int)] 23)).drew = W3 := ⟨_, rfl⟩
  have hb3 : Below w2.heap.size w2 W3 := by rw [← hW3]; exact ((Below.refl _ _).alloc (Nat.le_refl _) _).drew
  have bx3 : Ux W3 w2.heap.size n0 n1 n2 := by rw [← hW3]; exact ux_row (heap_alloc_new w2 _)
  rw [hW3]
  have B3 := Lib.hid (B2.out.trans (hb3.mono B2.out.size))
  clear hW3 c0 c1 c2 hab hb3 B2
  have BX3 := Lib.hid bx3
  obtain ⟨lt3, b0, b1, b2⟩ := bx3
  go_wp2_with fail
  refine (R.out _).mono ?_
  rintro e w4 ⟨rfl, hb4⟩
  have B4 := Lib.hid (B3.out.trans (hb4.mono B3.out.size))
  have h4 := (B4.out.block _ LT.out).trans H0.out
  have H4 := Lib.hid h4
  have HB4 := Lib.hid (HB.out.trans (B4.out.mono HB.out.size))
  obtain ⟨z0, z1, z2, zf⟩ := uzero_cells h4
  obtain ⟨lt4, f0, f1, f2⟩ := BX3.out.next hb4
  clear hb4 h4 b0 b1 b2 lt3 lt4
  cases ok with
  | false =>
    have HD := Lib.hid (HF.out rfl)
    clear f0 f1 f2 HF HK
    go_wp2
    refine bodyPost_ret (results_super (p := 2) (u := 3) rfl _ _ w.heap.size _ _ _ _ rfl rfl (three_set H4.out _ _ _)) rfl ?_
    exact udec_none s w _ 32 HD.out (below_three HB4.out (Nat.le_refl _) _ _ _)
  | true =>
    have HD := Lib.hid (HK.out rfl)
    clear HF HK
    go_wp2
    refine bodyPost_ret (results_super (p := 2) (u := 3) rfl _ _ w.heap.size _ _ _ _ rfl rfl (three_set H4.out _ _ _)) rfl ?_
    exact udec_some s w _ n0 n1 n2 HD.out (below_three HB4.out (Nat.le_refl _) _ _ _)
/-- The document's Decode, of any bytes. -/
theorem rudec_any (s : List UInt8) (w : World) : Calls Try.prog 12 #[.string (Om.B s)] w (UDec s w) := by
  by_cases h : Sc.opE Um.ts Um.zs s = 0
  · exact rudec_yes s w h
  · exact rudec_no s _ w rfl h
end Go.Proofs.Ytncbimgbjkdocaa
