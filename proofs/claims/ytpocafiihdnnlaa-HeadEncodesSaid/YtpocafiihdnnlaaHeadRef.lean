/- The document's own heads: Encode, Decode. -/
import Derived.Test.YtpocafiihdnnlaaHeadDec
import Derived.Test.YtpocafiihdnnlaaSecRef
namespace Go.Proofs.Ytpocafiihdnnlaa
open Go.RowKit
set_option linter.unusedVariables false

theorem rhenc_no (g : Nat) (c p : Int) (b : Bool) (w : World) (hok : Hm.okH g c p = false) :
    Calls Try.prog 7 #[Hv g c p b] w fun e w' => e = .returned (.tuple #[.string (Om.B []), .int .i64 1]) ∧ Below w.heap.size w w' := by
  have R := Lib.hid (fun w1 => rhright_any g c p b w1)
  rw [hok] at R
  have HB : Hid (Below w.heap.size w (w.alloc (.cells #[.int .u32 (g : Int), .int .i64 c, .int .i64 p, .bool b] 24))) := (Below.refl _ w).alloc (Nat.le_refl _) _
  have BX := Lib.hid (bx_alloc w g c p b 24)
  obtain ⟨_, a0, a1, a2, a3⟩ := BX.out
  unfold Hv at R ⊢
  clear hok
  go_enter Try.func7, Try.ntmps7
  go_wp2_with fail
  refine (R.out _).mono ?_
  rintro e w1 ⟨rfl, hb⟩
  have HB1 := Lib.hid (HB.out.trans (hb.mono HB.out.size))
  clear hb
  go_wp2
  go_ret2
  exact ⟨rfl, HB1.out⟩
theorem rheads_at (w : World) : Calls Try.prog 18 #[] w fun e w' => ∃ k, e = .returned (.slice (some ⟨k, 0, none⟩) 4 4) ∧ Row w' w'.heap.size (some ⟨k, 0, none⟩) 4 (szs Hm.zs) ∧ Below w.heap.size w w' :=
  (rheads_any w).mono fun e w' h => ⟨w.heap.size, h⟩
theorem rhsealed_at (g c p : Nat) (b : Bool) (hg : g < 4294967296) (hok : Hm.okH g c p = true) (W : World) (ks : Nat) (hr : Row W W.heap.size (some ⟨ks, 0, none⟩) 4 (szs Hm.zs)) :
    Calls Try.prog 17 #[.string ⟨#[79, 65, 75, 72]⟩, .slice (some ⟨ks, 0, none⟩) 4 4, .slice (some ⟨W.heap.size, 0, none⟩) 4 4] (W.alloc (ncell g c p b)) fun e w' => e = .returned (.string (Om.B (Hm.sector g c p b))) ∧ Below W.heap.size W w' := by
  obtain ⟨k1, k2, k3, k4, k5⟩ := (Hm.okH_iff _ _ _).1 hok
  have hb : Below W.heap.size W (W.alloc (ncell g c p b)) := (Below.refl _ W).alloc (Nat.le_refl _) _
  have hl : (Hm.nums g c p b).length = 4 := rfl
  refine (rsealed_any Hm.lay (Hm.nums g c p b) _ _ _ 4 4 4 _ rfl hl (by omega) (Nat.le_refl _) ((hr.below hb).more hb.size) (nums_row g c p b W hg (by omega) (by omega)) (nums_lt g c p b hg (by omega) (by omega)) (Hm.fit g c p b hg hok)).mono ?_
  rintro e w' ⟨he, hb'⟩
  exact ⟨he, hb.trans (hb'.mono hb.size)⟩

set_option maxHeartbeats 800000 in
theorem rhenc_ok (g c p : Nat) (b : Bool) (w : World) (hg : g < 4294967296) (hok : Hm.okH g c p = true) :
    Calls Try.prog 7 #[Hv g c p b] w fun e w' => e = .returned (.tuple #[.string (Om.B (Hm.sector g c p b)), .int .i64 0]) ∧ Below w.heap.size w w' := by
  obtain ⟨k1, k2, k3, k4, k5⟩ := (Hm.okH_iff _ _ _).1 hok
  have R := Lib.hid (fun w1 => rhright_any g c p b w1)
  rw [hok] at R
  have BX0 := Lib.hid (bx_alloc w g c p b 24)
  have HB : Hid (Below w.heap.size w (w.alloc (.cells #[.int .u32 (g : Int), .int .i64 (c : Int), .int .i64 (p : Int), .bool b] 24))) := (Below.refl _ w).alloc (Nat.le_refl _) _
  obtain ⟨W0, hW0⟩ : ∃ W0, w.alloc (.cells #[.int .u32 (g : Int), .int .i64 (c : Int), .int .i64 (p : Int), .bool b] 24) = W0 := ⟨_, rfl⟩
  rw [hW0] at HB BX0
  obtain ⟨lt0, a0, a1, a2, a3⟩ := BX0.out
  have SZ := Lib.hid rheads_at
  have J := Lib.hid (rhsealed_at g c p b hg hok)
  unfold ncell at J
  unfold Hv at R ⊢
  clear hok
  go_enter Try.func7, Try.ntmps7
  go_wp2_with fail
  clear hW0
  refine (R.out _).mono ?_
  rintro e w1 ⟨rfl, hb⟩
  have HB1 := Lib.hid (HB.out.trans (hb.mono HB.out.size))
  have BX1 := Lib.hid (BX0.out.next hb)
  clear hb a0 a1 a2 a3 lt0
  obtain ⟨lt1, a0, a1, a2, a3⟩ := BX1.out
  go_wp2
  go_region_held3 (fun w' => w'.cell? ⟨w.heap.size, 0, none⟩ = some (.int .u32 (g : Int)) ∧ w'.cell? ⟨w.heap.size, 1, none⟩ = some (.int .i64 (c : Int)) ∧ w'.cell? ⟨w.heap.size, 2, none⟩ = some (.int .i64 (p : Int)) ∧ w'.cell? ⟨w.heap.size, 3, none⟩ = some (.bool b))
    (first | go_keep | (refine ⟨?_, ?_, ?_, ?_⟩ <;> assumption) | (exact ⟨(BX.out.cell (p := ⟨w.heap.size, 0, none⟩) lt1).trans a0, (BX.out.cell (p := ⟨w.heap.size, 1, none⟩) lt1).trans a1, (BX.out.cell (p := ⟨w.heap.size, 2, none⟩) lt1).trans a2, (BX.out.cell (p := ⟨w.heap.size, 3, none⟩) lt1).trans a3⟩))
    (first | (go_at_call 18; refine (SZ.out _).mono ?_; rintro e w2 ⟨ks, rfl, hr2, hb2⟩; have BX : Hid (Below w1.heap.size w1 w2) := (Below.refl _ _).drew.trans hb2; have HR2 := Lib.hid hr2; clear hb2 hr2) | (go_at_call 19; refine (flag_any b _).mono ?_; rintro e w3 ⟨rfl, rfl⟩) | (go_at_call 17; refine (J.out _ _ HR2.out).mono ?_; rintro e w4 ⟨rfl, hb4⟩; have BY := BX; have BX : Hid (Below w1.heap.size w1 w4) := BY.out.trans (hb4.mono BY.out.size); clear hb4))
  clear a0 a1 a2 a3
  go_wp2
  go_ret2
  exact ⟨rfl, HB1.out.trans (BX.out.mono HB1.out.size)⟩
/-- Encode, of any head. -/
theorem rhenc_any (g : Nat) (c p : Int) (b : Bool) (w : World) (hg : g < 4294967296) :
    Calls Try.prog 7 #[Hv g c p b] w fun e w' => e = .returned (.tuple #[.string (Om.B (Hm.encS g c p b)), .int .i64 (Hm.encE g c p)]) ∧ Below w.heap.size w w' := by
  cases hok : Hm.okH g c p with
  | false =>
    rw [(Hm.enc_no b hok).1, (Hm.enc_no b hok).2]
    exact rhenc_no g c p b w hok
  | true =>
    rw [(Hm.enc_ok b hok).1, (Hm.enc_ok b hok).2]
    obtain ⟨k1, k2, k3, k4, k5⟩ := (Hm.okH_iff _ _ _).1 hok
    obtain ⟨c', rfl⟩ : ∃ n : Nat, c = (n : Int) := ⟨c.toNat, by omega⟩
    obtain ⟨p', rfl⟩ : ∃ n : Nat, p = (n : Int) := ⟨p.toNat, by omega⟩
    exact rhenc_ok g c' p' b w hg hok

/-- The three ways that the document's Decode goes. -/
theorem rdec_cases (a b c d : Nat) :
    (Hm.okH a b c = false ∧ Hm.okN a b c d = false) ∨ (Hm.okH a b c = true ∧ decide (1 < (d : Int)) = true ∧ Hm.okN a b c d = false) ∨ (Hm.okH a b c = true ∧ decide (1 < (d : Int)) = false ∧ Hm.okN a b c d = true) := by
  unfold Hm.okN
  cases Hm.okH a b c with
  | false => exact .inl ⟨rfl, rfl⟩
  | true =>
    refine .inr ?_
    by_cases h : d ≤ 1
    · exact .inr ⟨rfl, by simp; omega, by simpa using h⟩
    · exact .inl ⟨rfl, by simp; omega, by simpa using h⟩

theorem rhdec_no (s : List UInt8) (x : Int) (w : World) (h : Sc.opE Hm.ts Hm.zs s = x) (hx : x ≠ 0) : Calls Try.prog 12 #[.string (Om.B s)] w (HDec s w) := by
  have HD := Lib.hid (Hm.dec_off s x h hx)
  have O : Hid (∀ w1 a, Row w1 w1.heap.size a 4 (szs Hm.zs) → Calls Try.prog 23 #[.string (Om.B s), .string ⟨#[79, 65, 75, 72]⟩, .slice a 4 4] w1 (OpNo x w1)) := fun w1 a hr =>
    (ropened_any Hm.lay s _ a 4 4 w1 rfl (by omega) (Nat.le_refl _) hr).mono fun e w' he => by
      rcases he with he | he
      · rw [← h]; exact he.2
      · exact absurd (h.symm.trans he.1) hx
  unfold OpNo at O
  have hd : (x != 0) = true := by simpa using hx
  obtain ⟨W0, hW0⟩ : ∃ W0, w.alloc (.cells #[.int .u32 0, .int .i64 0, .int .i64 0, .bool false] 24) = W0 := ⟨_, rfl⟩
  obtain ⟨hB, h0, lt⟩ := result_made w W0 hW0
  have HB := Lib.hid hB
  have H0 := Lib.hid h0
  have LT := Lib.hid lt
  have SZ := Lib.hid rheads_at
  clear h hx hB h0 lt
  go_enter Try.func12, Try.ntmps12
  go_wp2_with fail
  clear hW0
  refine (SZ.out _).mono ?_
  rintro e w1 ⟨ks, rfl, hr1, hb1⟩
  have B1 := Lib.hid hb1
  have HR1 := Lib.hid hr1
  clear hb1 hr1
  go_wp2_with fail
  refine (O.out _ _ HR1.out).mono ?_
  rintro e w2 ⟨rfl, hb2⟩
  have B2 := Lib.hid (B1.out.trans (hb2.mono B1.out.size))
  have h2 := (B2.out.block _ LT.out).trans H0.out
  have H2 := Lib.hid h2
  have HB2 := Lib.hid (HB.out.trans (B2.out.mono HB.out.size))
  obtain ⟨z0, z1, z2, z3, zf⟩ := zero_cells h2
  clear hb2 h2
  go_wp2
  refine bodyPost_ret (results_four (p := 2) (u := 3) rfl _ _ w.heap.size _ _ _ _ _ rfl rfl (four_set H2.out _ _ _ _)) rfl ?_
  exact hdec_none s w _ x HD.out (below_four HB2.out (Nat.le_refl _) _ _ _ _)

set_option maxHeartbeats 800000 in
theorem rhdec_yes (s : List UInt8) (w : World) (h : Sc.opE Hm.ts Hm.zs s = 0) : Calls Try.prog 12 #[.string (Om.B s)] w (HDec s w) := by
  have HF := Lib.hid (Hm.dec_form s h)
  have HK := Lib.hid (Hm.dec_ok s h)
  have O : Hid (∀ w1 a, Row w1 w1.heap.size a 4 (szs Hm.zs) → Calls Try.prog 23 #[.string (Om.B s), .string ⟨#[79, 65, 75, 72]⟩, .slice a 4 4] w1 (OpOk Hm.zs 4 s w1)) := fun w1 a hr =>
    (ropened_any Hm.lay s _ a 4 4 w1 rfl (by omega) (Nat.le_refl _) hr).mono fun e w' he => by
      rcases he with he | he
      · exact absurd h he.1
      · exact he.2
  unfold OpOk at O
  have l0 := Hm.gen_lt s
  have l1 := Hm.chunk_lt s
  have l2 := Hm.cap_lt s
  have l3 := Hm.mark_lt s
  have hcase' := rdec_cases (Sc.numAt Hm.zs s 0) (Sc.numAt Hm.zs s 1) (Sc.numAt Hm.zs s 2) (Sc.numAt Hm.zs s 3)
  have R' := fun x w1 => rhright_any (Sc.numAt Hm.zs s 0) (Sc.numAt Hm.zs s 1) (Sc.numAt Hm.zs s 2) x w1
  obtain ⟨n0, hn0⟩ : ∃ n, n = Sc.numAt Hm.zs s 0 := ⟨_, rfl⟩
  obtain ⟨n1, hn1⟩ : ∃ n, n = Sc.numAt Hm.zs s 1 := ⟨_, rfl⟩
  obtain ⟨n2, hn2⟩ : ∃ n, n = Sc.numAt Hm.zs s 2 := ⟨_, rfl⟩
  obtain ⟨n3, hn3⟩ : ∃ n, n = Sc.numAt Hm.zs s 3 := ⟨_, rfl⟩
  have N0 := Lib.hid hn0
  have N1 := Lib.hid hn1
  have N2 := Lib.hid hn2
  have N3 := Lib.hid hn3
  rw [← hn0, ← hn1, ← hn2, ← hn3] at hcase' HF HK
  rw [← hn0, ← hn1, ← hn2] at R'
  rw [← hn0] at l0
  rw [← hn1] at l1
  rw [← hn2] at l2
  rw [← hn3] at l3
  obtain ⟨x3, hx3⟩ : ∃ x, ((n3 : Int) == 1) = x := ⟨_, rfl⟩
  rw [← cast_one, hx3] at HK
  have R := Lib.hid (R' x3)
  have hcase := Lib.hid hcase'
  unfold Hv at R
  have e0 : IntKind.u32.wrap (n0 : Int) = (n0 : Int) := IntWalk.u32_in _ (by omega)
  have e1 : IntKind.i64.wrap (n1 : Int) = (n1 : Int) := IntWalk.i64_in _ (by omega)
  have e2 : IntKind.i64.wrap (n2 : Int) = (n2 : Int) := IntWalk.i64_in _ (by omega)
  obtain ⟨W0, hW0⟩ : ∃ W0, w.alloc (.cells #[.int .u32 0, .int .i64 0, .int .i64 0, .bool false] 24) = W0 := ⟨_, rfl⟩
  obtain ⟨hB, h0, lt⟩ := result_made w W0 hW0
  have HB := Lib.hid hB
  have H0 := Lib.hid h0
  have LT := Lib.hid lt
  have SZ := Lib.hid rheads_at
  clear h hB h0 lt hn0 hn1 hn2 hn3 R' hcase'
  go_enter Try.func12, Try.ntmps12
  go_wp2_with fail
  clear hW0
  refine (SZ.out _).mono ?_
  rintro e w1 ⟨ks, rfl, hr1, hb1⟩
  have B1 := Lib.hid hb1
  have HR1 := Lib.hid hr1
  clear hb1 hr1
  go_wp2_with fail
  refine (O.out _ _ HR1.out).mono ?_
  rintro e w2 ⟨a2, k2, rfl, hr2, hb2⟩
  have B2 := Lib.hid (B1.out.trans (hb2.mono B1.out.size))
  obtain ⟨ab, ao, rfl, hab, hac⟩ := hr2 (by omega)
  have c0 : w2.cell? ⟨ab, ao, none⟩ = some (.int .u64 (n0 : Int)) := by rw [N0.out]; exact hac 0 (by omega)
  have c1 : w2.cell? ⟨ab, ao + 1, none⟩ = some (.int .u64 (n1 : Int)) := by rw [N1.out]; exact hac 1 (by omega)
  have c2 : w2.cell? ⟨ab, ao + 2, none⟩ = some (.int .u64 (n2 : Int)) := by rw [N2.out]; exact hac 2 (by omega)
  have c3 : w2.cell? ⟨ab, ao + 3, none⟩ = some (.int .u64 (n3 : Int)) := by rw [N3.out]; exact hac 3 (by omega)
  clear hb2 hr2 hac
  go_wp2_with fail
  go_region_held3 (fun w' => w'.cell? ⟨ab, ao, none⟩ = some (.int .u64 (n0 : Int)) ∧ w'.cell? ⟨ab, ao + 1, none⟩ = some (.int .u64 (n1 : Int)) ∧ w'.cell? ⟨ab, ao + 2, none⟩ = some (.int .u64 (n2 : Int)) ∧ w'.cell? ⟨ab, ao + 3, none⟩ = some (.int .u64 (n3 : Int)))
    (first | go_keep | (refine ⟨?_, ?_, ?_, ?_⟩ <;> assumption))
    (first | fail)
  obtain ⟨W3, hW3⟩ : ∃ W3, (w2.alloc (.cells #[.int .u32 (n0 : Int), .int .i64 (n1 : Int), .int .i64 (n2 : Int), .bool x3] 24)).drew = W3 := ⟨_, rfl⟩
  have hb3 : Below w2.heap.size w2 W3 := by rw [← hW3]; exact ((Below.refl _ _).alloc (Nat.le_refl _) _).drew
  have bx3 : Bx W3 w2.heap.size n0 n1 n2 x3 := by rw [← hW3]; exact bx_row (heap_alloc_new w2 _)
  rw [hW3]
  have hab2 := hab
  have d3 := (hb3.cell (p := ⟨ab, ao + 3, none⟩) hab2).trans c3
  have hnb3 := Nat.lt_of_lt_of_le hab2 hb3.size
  have B3 := Lib.hid (B2.out.trans (hb3.mono B2.out.size))
  clear hW3 c0 c1 c2 c3 hab hab2 hb3 B2
  have BX3 := Lib.hid bx3
  obtain ⟨lt3, b0, b1, b2, b3⟩ := bx3
  have D3 := Lib.hid d3
  clear d3
  go_wp2_with fail
  refine (R.out _).mono ?_
  rintro e w4 ⟨rfl, hb4⟩
  have B4 := Lib.hid (B3.out.trans (hb4.mono B3.out.size))
  have h4 := (B4.out.block _ LT.out).trans H0.out
  have H4 := Lib.hid h4
  have HB4 := Lib.hid (HB.out.trans (B4.out.mono HB.out.size))
  obtain ⟨z0, z1, z2, z3, zf⟩ := zero_cells h4
  have d4 := (hb4.cell (p := ⟨ab, ao + 3, none⟩) hnb3).trans D3.out
  obtain ⟨lt4, f0, f1, f2, f3⟩ := BX3.out.next hb4
  clear hb4 h4 b0 b1 b2 b3 lt3 lt4
  rcases hcase.out with ⟨hok, he⟩ | ⟨hok, hm, he⟩ | ⟨hok, hm, he⟩
  · have HD := Lib.hid (HF.out he)
    clear he d4 f0 f1 f2 f3
    rw [hok]
    go_wp2
    refine bodyPost_ret (results_four (p := 2) (u := 3) rfl _ _ w.heap.size _ _ _ _ _ rfl rfl (four_set H4.out _ _ _ _)) rfl ?_
    exact hdec_none s w _ 32 HD.out (below_four HB4.out (Nat.le_refl _) _ _ _ _)
  · have HD := Lib.hid (HF.out he)
    clear he f0 f1 f2 f3
    rw [hok]
    go_wp2
    refine bodyPost_ret (results_four (p := 2) (u := 3) rfl _ _ w.heap.size _ _ _ _ _ rfl rfl (four_set H4.out _ _ _ _)) rfl ?_
    exact hdec_none s w _ 32 HD.out (below_four HB4.out (Nat.le_refl _) _ _ _ _)
  · have HD := Lib.hid (HK.out he)
    clear he
    rw [hok]
    go_wp2
    refine bodyPost_ret (results_four (p := 2) (u := 3) rfl _ _ w.heap.size _ _ _ _ _ rfl rfl (four_set H4.out _ _ _ _)) rfl ?_
    exact hdec_some s w _ n0 n1 n2 x3 HD.out (below_four HB4.out (Nat.le_refl _) _ _ _ _)
/-- The document's Decode, of any bytes. -/
theorem rhdec_any (s : List UInt8) (w : World) : Calls Try.prog 12 #[.string (Om.B s)] w (HDec s w) := by
  by_cases h : Sc.opE Hm.ts Hm.zs s = 0
  · exact rhdec_yes s w h
  · exact rhdec_no s _ w rfl h
end Go.Proofs.Ytpocafiihdnnlaa
