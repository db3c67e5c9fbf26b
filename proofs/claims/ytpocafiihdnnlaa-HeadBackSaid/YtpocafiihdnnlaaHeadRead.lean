/- The contract of head's read. -/
import Derived.Test.YtpocafiihdnnlaaHeadEnc
import Derived.Test.YtpocafiihdnnlaaOctetGet2
import Derived.Test.YtpocafiihdnnlaaSkip
namespace Go.Proofs.Ytpocafiihdnnlaa
open Go.RowKit
set_option linter.unusedVariables false

theorem results_four {fn : Func} {p u : Tmp} (h : fn.results = #[.cell p 24, .tmp u]) (tmps : Array Value) (w : World) (g : Nat) (x0 x1 x2 x3 v : Value)
    (hp : tmps.getD p undef = .pointer (some ⟨g, 0, none⟩)) (hu : tmps.getD u undef = v) (hg : w.heap[g]? = some (.cells #[x0, x1, x2, x3] 24 (0, 0))) :
    (results fn tmps).run Try.prog w = .ok (.tuple #[.agg #[x0, x1, x2, x3], v]) w := by
  have hi : (Try.prog.info? 24).map (·.size) = some (#[x0, x1, x2, x3] : Array Value).size := by kernel_rfl
  rw [results_cell_tmp h, hp, hu]
  simp [asAddr, run_loadVar_row w g 24 24 #[x0, x1, x2, x3] (0, 0) _ hg Try.underlying24 rfl hi, Result.andThen]
theorem four_set {w : World} {g : Nat} {a b c d : Value} {t : TypeId} (h : w.heap[g]? = some (.cells #[a, b, c, d] t (0, 0))) (x y z u : Value) :
    ((((w.setCell ⟨g, 0, none⟩ x).setCell ⟨g, 1, none⟩ y).setCell ⟨g, 2, none⟩ z).setCell ⟨g, 3, none⟩ u).heap[g]? = some (.cells #[x, y, z, u] t (0, 0)) := by
  have h1 := heap_setCell_same w g 0 _ _ x h
  have h2 := heap_setCell_same _ g 1 _ _ y h1
  have h3 := heap_setCell_same _ g 2 _ _ z h2
  exact heap_setCell_same _ g 3 _ _ u h3

theorem below_four {B : Nat} {a w : World} {g : Nat} (h : Below B a w) (hg : B ≤ g) (x y z u : Value) : Below B a ((((w.setCell ⟨g, 0, none⟩ x).setCell ⟨g, 1, none⟩ y).setCell ⟨g, 2, none⟩ z).setCell ⟨g, 3, none⟩ u) :=
  (((h.setCell (p := ⟨g, 0, none⟩) hg x).setCell (p := ⟨g, 1, none⟩) hg y).setCell (p := ⟨g, 2, none⟩) hg z).setCell (p := ⟨g, 3, none⟩) hg u

/-- What Get gives of a head's numbers. -/
def GetH (r : List UInt8) (n0 n1 n2 n3 : Nat) (w : World) (e : Ending) (w' : World) : Prop :=
  ∃ nb : Nat, e = .returned (.tuple #[.slice (some ⟨nb, 0, none⟩) 4 4, .string (Om.B r), .int .i64 0]) ∧ nb < w'.heap.size ∧
    w'.cell? ⟨nb, 0, none⟩ = some (.int .u64 (n0 : Int)) ∧ w'.cell? ⟨nb, 1, none⟩ = some (.int .u64 (n1 : Int)) ∧ w'.cell? ⟨nb, 2, none⟩ = some (.int .u64 (n2 : Int)) ∧ w'.cell? ⟨nb, 3, none⟩ = some (.int .u64 (n3 : Int)) ∧ Below w.heap.size w w'
theorem geth (q : List UInt8) (h : 11 ≤ q.length) (a : Option Addr) (cap : Nat) (w : World) (hr : Row w w.heap.size a 4 (szs Hm.zs)) :
    Calls Try.prog 33 #[.string (Om.B q), .slice a 4 cap] w (GetH (q.drop 11) (Om.at_ q Hm.zs 0) (Om.at_ q Hm.zs 1) (Om.at_ q Hm.zs 2) (Om.at_ q Hm.zs 3) w) := by
  refine (get_full q Hm.zs w.heap.size a 4 cap w rfl (by omega) (Nat.le_refl _) hr (by decide) (by rw [show Om.off Hm.zs 4 = 11 by decide]; exact h)).mono ?_
  rintro e w' ⟨nb, he, _, h2, hc, hb⟩
  rw [show Om.off Hm.zs 4 = 11 by decide] at he
  exact ⟨nb, he, h2, hc 0 (by omega), hc 1 (by omega), hc 2 (by omega), hc 3 (by omega), hb⟩
theorem mark_true (w : World) : Calls Try.prog 15 #[.bool true] w fun e w' => e = .returned (.int .u64 1) ∧ w = w' := mark_any true w

set_option maxHeartbeats 800000 in
/-- Bytes that are not 0 behind the numbers. -/
theorem hread_rest (q : List UInt8) (w : World) (h : 11 ≤ q.length) (hl : q.length ≤ 60) (hz : allZero (q.drop 11) = false) :
    Calls Try.prog 22 #[.string (Om.B q)] w fun e w' => e = .returned (.tuple #[Hv 0 0 0 false, .bool false]) ∧ Below w.heap.size w w' := by
  have SZ := Lib.hid hsizes_at
  have G := Lib.hid (geth q h)
  have Z := Lib.hid (fun w1 => zero_any (q.drop 11) w1 (by rw [List.length_drop]; omega))
  rw [hz] at Z
  unfold GetH at G
  have HB : Hid (Below w.heap.size w (w.alloc (.cells #[.int .u32 0, .int .i64 0, .int .i64 0, .bool false] 24))) := (Below.refl _ w).alloc (Nat.le_refl _) _
  have hw0 := heap_alloc_new w (.cells #[.int .u32 0, .int .i64 0, .int .i64 0, .bool false] 24)
  obtain ⟨W0, hW0⟩ : ∃ W0, w.alloc (.cells #[.int .u32 0, .int .i64 0, .int .i64 0, .bool false] 24) = W0 := ⟨_, rfl⟩
  rw [hW0] at HB hw0
  have H0 := Lib.hid hw0
  have LT := Lib.hid (Array.getElem?_eq_some_iff.1 hw0).1
  unfold Hv
  clear h hl hz hw0
  go_enter Try.func22, Try.ntmps22
  go_wp2_with fail
  clear hW0
  refine (SZ.out _).mono ?_
  rintro e w1 ⟨ks, rfl, hr1, hb1⟩
  have HR1 := Lib.hid hr1
  have B1 := Lib.hid hb1
  clear hr1 hb1
  go_wp2_with fail
  refine (G.out _ _ _ HR1.out).mono ?_
  rintro e w2 ⟨nb, rfl, _, _, _, _, _, hb2⟩
  have B2 := Lib.hid (B1.out.trans (hb2.mono B1.out.size))
  clear hb2
  go_wp2_with fail
  refine (Z.out _).mono ?_
  rintro e w3 ⟨rfl, rfl⟩
  have h3 := (B2.out.block _ LT.out).trans H0.out
  have H3 := Lib.hid h3
  have HB2 := Lib.hid (HB.out.trans (B2.out.mono HB.out.size))
  have z0 : w2.cell? ⟨w.heap.size, 0, none⟩ = some (.int .u32 0) := by rw [cell_of_row _ _ _ _ _ _ h3]; rfl
  have z1 : w2.cell? ⟨w.heap.size, 1, none⟩ = some (.int .i64 0) := by rw [cell_of_row _ _ _ _ _ _ h3]; rfl
  have z2 : w2.cell? ⟨w.heap.size, 2, none⟩ = some (.int .i64 0) := by rw [cell_of_row _ _ _ _ _ _ h3]; rfl
  have z3 : w2.cell? ⟨w.heap.size, 3, none⟩ = some (.bool false) := by rw [cell_of_row _ _ _ _ _ _ h3]; rfl
  have zf := fun j => frozen_of_row (j := j) _ _ _ _ h3
  clear h3
  go_wp2
  refine bodyPost_ret (results_four (p := 2) (u := 3) rfl _ _ w.heap.size _ _ _ _ _ rfl rfl (four_set H3.out _ _ _ _)) rfl ⟨rfl, ?_⟩
  exact below_four HB2.out (Nat.le_refl _) _ _ _ _

/-- What read gives. -/
def rdV (good : Bool) (g : Nat) (c p : Int) (b : Bool) : Value := if good = true then Hv g c p b else Hv 0 0 0 false
theorem rdV_no (g : Nat) (c p : Int) (b : Bool) : rdV false g c p b = Hv 0 0 0 false := rfl
theorem rdV_yes (g : Nat) (c p : Int) (b : Bool) : rdV true g c p b = Hv g c p b := rfl
/-- The three ways that read goes. -/
theorem read_cases (ok : Bool) (n : Nat) :
    (ok = false ∧ (ok && decide (n ≤ 1)) = false) ∨ (ok = true ∧ ((n : Int) != ((Hm.bit ((n : Int) == 1) : Nat) : Int)) = true ∧ (ok && decide (n ≤ 1)) = false) ∨ (ok = true ∧ ((n : Int) != ((Hm.bit ((n : Int) == 1) : Nat) : Int)) = false ∧ (ok && decide (n ≤ 1)) = true) := by
  cases ok with
  | false => exact .inl ⟨rfl, rfl⟩
  | true =>
    refine .inr ?_
    by_cases h : n ≤ 1
    · refine .inr ⟨rfl, ?_, by simpa using h⟩
      by_cases h1 : n = 1
      · subst h1; rfl
      · obtain rfl : n = 0 := by omega
        rfl
    · refine .inl ⟨rfl, ?_, by simpa using h⟩
      have : ((n : Int) == 1) = false := by rw [beq_eq_false_iff_ne]; omega
      rw [this]
      show ((n : Int) != 0) = true
      rw [bne_iff_ne]; omega

set_option maxHeartbeats 800000 in
theorem hread_f (q r : List UInt8) (n0 n1 n2 n3 m3 : Nat) (x3 : Bool) (w : World) (h0 : n0 < 4294967296) (h1 : n1 < 65536) (h2 : n2 < 4294967296) (h3 : n3 < 256)
    (hx3 : ((n3 : Int) == 1) = x3) 
    (G : Hid (∀ a cap w1, Row w1 w1.heap.size a 4 (szs Hm.zs) → Calls Try.prog 33 #[.string (Om.B q), .slice a 4 cap] w1 (GetH r n0 n1 n2 n3 w1)))
    (Z : Hid (∀ w1, Calls Try.prog 34 #[.string (Om.B r)] w1 fun e w' => e = .returned (.bool true) ∧ w1 = w'))
    (R : Hid (∀ w1, Calls Try.prog 9 #[Hv n0 n1 n2 x3] w1 fun e w' => e = .returned (.bool false) ∧ Below w1.heap.size w1 w'))
    (M : Hid (∀ w1, Calls Try.prog 15 #[.bool x3] w1 fun e w' => e = .returned (.int .u64 (m3 : Int)) ∧ w1 = w')) :
    Calls Try.prog 22 #[.string (Om.B q)] w fun e w' => e = .returned (.tuple #[Hv 0 0 0 false, .bool false]) ∧ Below w.heap.size w w' := by
  have SZ := Lib.hid hsizes_at
  unfold GetH at G
  have HB : Hid (Below w.heap.size w (w.alloc (.cells #[.int .u32 0, .int .i64 0, .int .i64 0, .bool false] 24))) := (Below.refl _ w).alloc (Nat.le_refl _) _
  have hw0 := heap_alloc_new w (.cells #[.int .u32 0, .int .i64 0, .int .i64 0, .bool false] 24)
  obtain ⟨W0, hW0⟩ : ∃ W0, w.alloc (.cells #[.int .u32 0, .int .i64 0, .int .i64 0, .bool false] 24) = W0 := ⟨_, rfl⟩
  rw [hW0] at HB hw0
  have H0 := Lib.hid hw0
  have LT := Lib.hid (Array.getElem?_eq_some_iff.1 hw0).1
  have e0 : IntKind.u32.wrap (n0 : Int) = (n0 : Int) := IntWalk.u32_in _ (by omega)
  have e1 : IntKind.i64.wrap (n1 : Int) = (n1 : Int) := IntWalk.i64_in _ (by omega)
  have e2 : IntKind.i64.wrap (n2 : Int) = (n2 : Int) := IntWalk.i64_in _ (by omega)
  unfold Hv at R ⊢
  clear hw0
  go_enter Try.func22, Try.ntmps22
  go_wp2_with fail
  clear hW0
  refine (SZ.out _).mono ?_
  rintro e w1 ⟨ks, rfl, hr1, hb1⟩
  have HR1 := Lib.hid hr1
  have B1 := Lib.hid hb1
  clear hr1 hb1
  go_wp2_with fail
  refine (G.out _ _ _ HR1.out).mono ?_
  rintro e w2 ⟨nb, rfl, hnb, c0, c1, c2, c3, hb2⟩
  have B2 := Lib.hid (B1.out.trans (hb2.mono B1.out.size))
  clear hb2
  go_wp2_with fail
  refine (Z.out _).mono ?_
  rintro e w3 ⟨rfl, rfl⟩
  go_wp2
  go_region_held3 (fun w' => w'.cell? ⟨nb, 0, none⟩ = some (.int .u64 (n0 : Int)) ∧ w'.cell? ⟨nb, 1, none⟩ = some (.int .u64 (n1 : Int)) ∧ w'.cell? ⟨nb, 2, none⟩ = some (.int .u64 (n2 : Int)) ∧ w'.cell? ⟨nb, 3, none⟩ = some (.int .u64 (n3 : Int)))
    (first | go_keep | (refine ⟨?_, ?_, ?_, ?_⟩ <;> assumption))
    (first | (go_at_call 15; refine (mark_true _).mono ?_; rintro e w3 ⟨rfl, rfl⟩))
  all_goals
    obtain ⟨W3, hW3⟩ : ∃ W3, (w2.alloc (.cells #[.int .u32 (n0 : Int), .int .i64 (n1 : Int), .int .i64 (n2 : Int), .bool x3] 24)).drew = W3 := ⟨_, rfl⟩
    have hb3 : Below w2.heap.size w2 W3 := by rw [← hW3]; exact ((Below.refl _ _).alloc (Nat.le_refl _) _).drew
    have bx3 : Bx W3 w2.heap.size n0 n1 n2 x3 := by rw [← hW3]; exact bx_row (heap_alloc_new w2 _)
    rw [hW3]
    have d3 := (hb3.cell (p := ⟨nb, 3, none⟩) hnb).trans c3
    have hnb3 := Nat.lt_of_lt_of_le hnb hb3.size
    have B3 := Lib.hid (B2.out.trans (hb3.mono B2.out.size))
    clear hW3 c0 c1 c2 c3 hnb hb3 B2
    obtain ⟨lt3, b0, b1, b2, b3⟩ := bx3
    have hsz : w.heap.size < W3.heap.size := Nat.lt_of_lt_of_le LT.out B3.out.size
    go_wp2_with fail
    refine wp_region_held_drew (S := (fun w' => w'.cell? ⟨w2.heap.size, 0, none⟩ = some (.int .u32 (n0 : Int)) ∧ w'.cell? ⟨w2.heap.size, 1, none⟩ = some (.int .i64 (n1 : Int)) ∧ w'.cell? ⟨w2.heap.size, 2, none⟩ = some (.int .i64 (n2 : Int)) ∧ w'.cell? ⟨w2.heap.size, 3, none⟩ = some (.bool x3))) (by kernel_rfl) ⟨b0, b1, b2, b3⟩ (fun hHeld => ?_)
    refine Skip.take (i := 0) 41 (.agg #[.int .u32 (n0 : Int), .int .i64 (n1 : Int), .int .i64 (n2 : Int), .bool x3]) rfl rfl (by kernel_rfl) (by kernel_rfl) (by kernel_rfl) (fun _ _ _ h => h) (by rfl) ?_ (by assumption) ?_
    · intro w' hSw
      (try dsimp only at hSw)
      go_simp
    try simp only [Act.put, List.setIfInBounds_toArray, List.set_cons_zero, List.set_cons_succ]
    refine wpAnyH_ready (rs := [1]) (by kernel_rfl) (by simp) ?_
    refine AllReadyH.cons rfl (fun K hK => ?_) AllReadyH.nil
    go_simp
    go_at_call 9
    refine (R.out _).mono ?_
    rintro e w4 ⟨rfl, hb⟩
    have BX : Hid (Below W3.heap.size W3 w4) := (Below.refl _ _).drew.trans hb
    clear hb
    refine hK.out _ _ ⟨(BX.out.cell (p := ⟨w2.heap.size, 0, none⟩) lt3).trans b0, (BX.out.cell (p := ⟨w2.heap.size, 1, none⟩) lt3).trans b1, (BX.out.cell (p := ⟨w2.heap.size, 2, none⟩) lt3).trans b2, (BX.out.cell (p := ⟨w2.heap.size, 3, none⟩) lt3).trans b3⟩ (fun hHeld => ?_)
    clear hK
    try simp only [Act.put, List.setIfInBounds_toArray, List.set_cons_zero, List.set_cons_succ]
    refine Skip.take (i := 2) 43 (.bool true) rfl rfl (by kernel_rfl) (by kernel_rfl) (by kernel_rfl) (fun _ _ _ h => h) (by rfl) ?_ (by assumption) ?_
    · intro w' hSw
      (try dsimp only at hSw)
      go_simp
    try simp only [Act.put, List.setIfInBounds_toArray, List.set_cons_zero, List.set_cons_succ]
    refine Skip.take (i := 3) 44 (.bool true) rfl rfl (by kernel_rfl) (by kernel_rfl) (by kernel_rfl) (fun _ _ _ h => h) (by rfl) ?_ (by assumption) ?_
    · intro w' hSw
      (try dsimp only at hSw)
      go_simp
    try simp only [Act.put, List.setIfInBounds_toArray, List.set_cons_zero, List.set_cons_succ]
    refine Skip.over (i := 4) (d := 45) rfl rfl rfl (by kernel_rfl) (by kernel_rfl) (by kernel_rfl) (fun _ _ _ h => h) (by rfl) (by assumption) ?_
    refine Skip.over (i := 5) (d := 46) rfl rfl rfl (by kernel_rfl) (by kernel_rfl) (by kernel_rfl) (fun _ _ _ h => h) (by rfl) (by assumption) ?_
    refine Skip.over (i := 6) (d := 47) rfl rfl rfl (by kernel_rfl) (by kernel_rfl) (by kernel_rfl) (fun _ _ _ h => h) (by rfl) (by assumption) ?_
    refine Skip.over (i := 7) (d := 48) rfl rfl rfl (by kernel_rfl) (by kernel_rfl) (by kernel_rfl) (fun _ _ _ h => h) (by rfl) (by assumption) ?_
    refine Skip.over (i := 8) (d := 49) rfl rfl rfl (by kernel_rfl) (by kernel_rfl) (by kernel_rfl) (fun _ _ _ h => h) (by rfl) (by assumption) ?_
    refine Skip.over (i := 9) (d := 50) rfl rfl rfl (by kernel_rfl) (by kernel_rfl) (by kernel_rfl) (fun _ _ _ h => h) (by rfl) (by assumption) ?_
    refine Skip.over (i := 10) (d := 51) rfl rfl rfl (by kernel_rfl) (by kernel_rfl) (by kernel_rfl) (fun _ _ _ h => h) (by rfl) (by assumption) ?_
    refine Skip.take (i := 11) 52 (.bool true) rfl rfl (by kernel_rfl) (by kernel_rfl) (by kernel_rfl) (fun _ _ _ h => h) (by rfl) ?_ (by assumption) ?_
    · intro w' hSw
      (try dsimp only at hSw)
      go_simp
    try simp only [Act.put, List.setIfInBounds_toArray, List.set_cons_zero, List.set_cons_succ]
    refine wpAnyH_done (by kernel_rfl) ?_ _
    have h4 := (BX.out.block _ hsz).trans ((B3.out.block _ LT.out).trans H0.out)
    have H4 := Lib.hid h4
    have HB4 := Lib.hid (HB.out.trans ((B3.out.trans (BX.out.mono B3.out.size)).mono HB.out.size))
    have z0 : w4.cell? ⟨w.heap.size, 0, none⟩ = some (.int .u32 0) := by rw [cell_of_row _ _ _ _ _ _ h4]; rfl
    have z1 : w4.cell? ⟨w.heap.size, 1, none⟩ = some (.int .i64 0) := by rw [cell_of_row _ _ _ _ _ _ h4]; rfl
    have z2 : w4.cell? ⟨w.heap.size, 2, none⟩ = some (.int .i64 0) := by rw [cell_of_row _ _ _ _ _ _ h4]; rfl
    have z3 : w4.cell? ⟨w.heap.size, 3, none⟩ = some (.bool false) := by rw [cell_of_row _ _ _ _ _ _ h4]; rfl
    have zf := fun j => frozen_of_row (j := j) _ _ _ _ h4
    clear h4 b0 b1 b2 b3 d3
    go_wp2
    refine bodyPost_ret (results_four (p := 2) (u := 3) rfl _ _ w.heap.size _ _ _ _ _ rfl rfl (four_set H4.out _ _ _ _)) rfl ⟨rfl, ?_⟩
    exact below_four HB4.out (Nat.le_refl _) _ _ _ _

set_option maxHeartbeats 800000 in
theorem hread_m (q r : List UInt8) (n0 n1 n2 n3 m3 : Nat) (x3 : Bool) (w : World) (h0 : n0 < 4294967296) (h1 : n1 < 65536) (h2 : n2 < 4294967296) (h3 : n3 < 256)
    (hx3 : ((n3 : Int) == 1) = x3) (hm : ((n3 : Int) != (m3 : Int)) = true)
    (G : Hid (∀ a cap w1, Row w1 w1.heap.size a 4 (szs Hm.zs) → Calls Try.prog 33 #[.string (Om.B q), .slice a 4 cap] w1 (GetH r n0 n1 n2 n3 w1)))
    (Z : Hid (∀ w1, Calls Try.prog 34 #[.string (Om.B r)] w1 fun e w' => e = .returned (.bool true) ∧ w1 = w'))
    (R : Hid (∀ w1, Calls Try.prog 9 #[Hv n0 n1 n2 x3] w1 fun e w' => e = .returned (.bool true) ∧ Below w1.heap.size w1 w'))
    (M : Hid (∀ w1, Calls Try.prog 15 #[.bool x3] w1 fun e w' => e = .returned (.int .u64 (m3 : Int)) ∧ w1 = w')) :
    Calls Try.prog 22 #[.string (Om.B q)] w fun e w' => e = .returned (.tuple #[Hv 0 0 0 false, .bool false]) ∧ Below w.heap.size w w' := by
  have SZ := Lib.hid hsizes_at
  unfold GetH at G
  have HB : Hid (Below w.heap.size w (w.alloc (.cells #[.int .u32 0, .int .i64 0, .int .i64 0, .bool false] 24))) := (Below.refl _ w).alloc (Nat.le_refl _) _
  have hw0 := heap_alloc_new w (.cells #[.int .u32 0, .int .i64 0, .int .i64 0, .bool false] 24)
  obtain ⟨W0, hW0⟩ : ∃ W0, w.alloc (.cells #[.int .u32 0, .int .i64 0, .int .i64 0, .bool false] 24) = W0 := ⟨_, rfl⟩
  rw [hW0] at HB hw0
  have H0 := Lib.hid hw0
  have LT := Lib.hid (Array.getElem?_eq_some_iff.1 hw0).1
  have e0 : IntKind.u32.wrap (n0 : Int) = (n0 : Int) := IntWalk.u32_in _ (by omega)
  have e1 : IntKind.i64.wrap (n1 : Int) = (n1 : Int) := IntWalk.i64_in _ (by omega)
  have e2 : IntKind.i64.wrap (n2 : Int) = (n2 : Int) := IntWalk.i64_in _ (by omega)
  unfold Hv at R ⊢
  clear hw0
  go_enter Try.func22, Try.ntmps22
  go_wp2_with fail
  clear hW0
  refine (SZ.out _).mono ?_
  rintro e w1 ⟨ks, rfl, hr1, hb1⟩
  have HR1 := Lib.hid hr1
  have B1 := Lib.hid hb1
  clear hr1 hb1
  go_wp2_with fail
  refine (G.out _ _ _ HR1.out).mono ?_
  rintro e w2 ⟨nb, rfl, hnb, c0, c1, c2, c3, hb2⟩
  have B2 := Lib.hid (B1.out.trans (hb2.mono B1.out.size))
  clear hb2
  go_wp2_with fail
  refine (Z.out _).mono ?_
  rintro e w3 ⟨rfl, rfl⟩
  go_wp2
  go_region_held3 (fun w' => w'.cell? ⟨nb, 0, none⟩ = some (.int .u64 (n0 : Int)) ∧ w'.cell? ⟨nb, 1, none⟩ = some (.int .u64 (n1 : Int)) ∧ w'.cell? ⟨nb, 2, none⟩ = some (.int .u64 (n2 : Int)) ∧ w'.cell? ⟨nb, 3, none⟩ = some (.int .u64 (n3 : Int)))
    (first | go_keep | (refine ⟨?_, ?_, ?_, ?_⟩ <;> assumption))
    (first | (go_at_call 15; refine (mark_true _).mono ?_; rintro e w3 ⟨rfl, rfl⟩))
  all_goals
    obtain ⟨W3, hW3⟩ : ∃ W3, (w2.alloc (.cells #[.int .u32 (n0 : Int), .int .i64 (n1 : Int), .int .i64 (n2 : Int), .bool x3] 24)).drew = W3 := ⟨_, rfl⟩
    have hb3 : Below w2.heap.size w2 W3 := by rw [← hW3]; exact ((Below.refl _ _).alloc (Nat.le_refl _) _).drew
    have bx3 : Bx W3 w2.heap.size n0 n1 n2 x3 := by rw [← hW3]; exact bx_row (heap_alloc_new w2 _)
    rw [hW3]
    have d3 := (hb3.cell (p := ⟨nb, 3, none⟩) hnb).trans c3
    have hnb3 := Nat.lt_of_lt_of_le hnb hb3.size
    have B3 := Lib.hid (B2.out.trans (hb3.mono B2.out.size))
    clear hW3 c0 c1 c2 c3 hnb hb3 B2
    obtain ⟨lt3, b0, b1, b2, b3⟩ := bx3
    have hsz : w.heap.size < W3.heap.size := Nat.lt_of_lt_of_le LT.out B3.out.size
    go_wp2_with fail
    first | (go_region_held3 (fun w' => w'.cell? ⟨w2.heap.size, 0, none⟩ = some (.int .u32 (n0 : Int)) ∧ w'.cell? ⟨w2.heap.size, 1, none⟩ = some (.int .i64 (n1 : Int)) ∧ w'.cell? ⟨w2.heap.size, 2, none⟩ = some (.int .i64 (n2 : Int)) ∧ w'.cell? ⟨w2.heap.size, 3, none⟩ = some (.bool x3) ∧ w'.cell? ⟨nb, 3, none⟩ = some (.int .u64 (n3 : Int)))
      (first | go_keep | (refine ⟨?_, ?_, ?_, ?_, ?_⟩ <;> assumption) | (exact ⟨(BX.out.cell (p := ⟨w2.heap.size, 0, none⟩) lt3).trans b0, (BX.out.cell (p := ⟨w2.heap.size, 1, none⟩) lt3).trans b1, (BX.out.cell (p := ⟨w2.heap.size, 2, none⟩) lt3).trans b2, (BX.out.cell (p := ⟨w2.heap.size, 3, none⟩) lt3).trans b3, (BX.out.cell (p := ⟨nb, 3, none⟩) hnb3).trans d3⟩))
      (first | (go_at_call 9; refine (R.out _).mono ?_; rintro e w4 ⟨rfl, hb⟩; have BX : Hid (Below W3.heap.size W3 w4) := (Below.refl _ _).drew.trans hb; clear hb) | (go_at_call 15; refine (M.out _).mono ?_; rintro e w5 ⟨rfl, rfl⟩))) | fail
    have h4 := (BX.out.block _ hsz).trans ((B3.out.block _ LT.out).trans H0.out)
    have H4 := Lib.hid h4
    have HB4 := Lib.hid (HB.out.trans ((B3.out.trans (BX.out.mono B3.out.size)).mono HB.out.size))
    have z0 : w4.cell? ⟨w.heap.size, 0, none⟩ = some (.int .u32 0) := by rw [cell_of_row _ _ _ _ _ _ h4]; rfl
    have z1 : w4.cell? ⟨w.heap.size, 1, none⟩ = some (.int .i64 0) := by rw [cell_of_row _ _ _ _ _ _ h4]; rfl
    have z2 : w4.cell? ⟨w.heap.size, 2, none⟩ = some (.int .i64 0) := by rw [cell_of_row _ _ _ _ _ _ h4]; rfl
    have z3 : w4.cell? ⟨w.heap.size, 3, none⟩ = some (.bool false) := by rw [cell_of_row _ _ _ _ _ _ h4]; rfl
    have zf := fun j => frozen_of_row (j := j) _ _ _ _ h4
    clear h4 b0 b1 b2 b3 d3
    go_wp2
    refine bodyPost_ret (results_four (p := 2) (u := 3) rfl _ _ w.heap.size _ _ _ _ _ rfl rfl (four_set H4.out _ _ _ _)) rfl ⟨rfl, ?_⟩
    exact below_four HB4.out (Nat.le_refl _) _ _ _ _

set_option maxHeartbeats 800000 in
theorem hread_t (q r : List UInt8) (n0 n1 n2 n3 m3 : Nat) (x3 : Bool) (w : World) (h0 : n0 < 4294967296) (h1 : n1 < 65536) (h2 : n2 < 4294967296) (h3 : n3 < 256)
    (hx3 : ((n3 : Int) == 1) = x3) (hm : ((n3 : Int) != (m3 : Int)) = false)
    (G : Hid (∀ a cap w1, Row w1 w1.heap.size a 4 (szs Hm.zs) → Calls Try.prog 33 #[.string (Om.B q), .slice a 4 cap] w1 (GetH r n0 n1 n2 n3 w1)))
    (Z : Hid (∀ w1, Calls Try.prog 34 #[.string (Om.B r)] w1 fun e w' => e = .returned (.bool true) ∧ w1 = w'))
    (R : Hid (∀ w1, Calls Try.prog 9 #[Hv n0 n1 n2 x3] w1 fun e w' => e = .returned (.bool true) ∧ Below w1.heap.size w1 w'))
    (M : Hid (∀ w1, Calls Try.prog 15 #[.bool x3] w1 fun e w' => e = .returned (.int .u64 (m3 : Int)) ∧ w1 = w')) :
    Calls Try.prog 22 #[.string (Om.B q)] w fun e w' => e = .returned (.tuple #[Hv n0 n1 n2 x3, .bool true]) ∧ Below w.heap.size w w' := by
  have SZ := Lib.hid hsizes_at
  unfold GetH at G
  have HB : Hid (Below w.heap.size w (w.alloc (.cells #[.int .u32 0, .int .i64 0, .int .i64 0, .bool false] 24))) := (Below.refl _ w).alloc (Nat.le_refl _) _
  have hw0 := heap_alloc_new w (.cells #[.int .u32 0, .int .i64 0, .int .i64 0, .bool false] 24)
  obtain ⟨W0, hW0⟩ : ∃ W0, w.alloc (.cells #[.int .u32 0, .int .i64 0, .int .i64 0, .bool false] 24) = W0 := ⟨_, rfl⟩
  rw [hW0] at HB hw0
  have H0 := Lib.hid hw0
  have LT := Lib.hid (Array.getElem?_eq_some_iff.1 hw0).1
  have e0 : IntKind.u32.wrap (n0 : Int) = (n0 : Int) := IntWalk.u32_in _ (by omega)
  have e1 : IntKind.i64.wrap (n1 : Int) = (n1 : Int) := IntWalk.i64_in _ (by omega)
  have e2 : IntKind.i64.wrap (n2 : Int) = (n2 : Int) := IntWalk.i64_in _ (by omega)
  unfold Hv at R ⊢
  clear hw0
  go_enter Try.func22, Try.ntmps22
  go_wp2_with fail
  clear hW0
  refine (SZ.out _).mono ?_
  rintro e w1 ⟨ks, rfl, hr1, hb1⟩
  have HR1 := Lib.hid hr1
  have B1 := Lib.hid hb1
  clear hr1 hb1
  go_wp2_with fail
  refine (G.out _ _ _ HR1.out).mono ?_
  rintro e w2 ⟨nb, rfl, hnb, c0, c1, c2, c3, hb2⟩
  have B2 := Lib.hid (B1.out.trans (hb2.mono B1.out.size))
  clear hb2
  go_wp2_with fail
  refine (Z.out _).mono ?_
  rintro e w3 ⟨rfl, rfl⟩
  go_wp2
  go_region_held3 (fun w' => w'.cell? ⟨nb, 0, none⟩ = some (.int .u64 (n0 : Int)) ∧ w'.cell? ⟨nb, 1, none⟩ = some (.int .u64 (n1 : Int)) ∧ w'.cell? ⟨nb, 2, none⟩ = some (.int .u64 (n2 : Int)) ∧ w'.cell? ⟨nb, 3, none⟩ = some (.int .u64 (n3 : Int)))
    (first | go_keep | (refine ⟨?_, ?_, ?_, ?_⟩ <;> assumption))
    (first | (go_at_call 15; refine (mark_true _).mono ?_; rintro e w3 ⟨rfl, rfl⟩))
  all_goals
    obtain ⟨W3, hW3⟩ : ∃ W3, (w2.alloc (.cells #[.int .u32 (n0 : Int), .int .i64 (n1 : Int), .int .i64 (n2 : Int), .bool x3] 24)).drew = W3 := ⟨_, rfl⟩
    have hb3 : Below w2.heap.size w2 W3 := by rw [← hW3]; exact ((Below.refl _ _).alloc (Nat.le_refl _) _).drew
    have bx3 : Bx W3 w2.heap.size n0 n1 n2 x3 := by rw [← hW3]; exact bx_row (heap_alloc_new w2 _)
    rw [hW3]
    have d3 := (hb3.cell (p := ⟨nb, 3, none⟩) hnb).trans c3
    have hnb3 := Nat.lt_of_lt_of_le hnb hb3.size
    have B3 := Lib.hid (B2.out.trans (hb3.mono B2.out.size))
    clear hW3 c0 c1 c2 c3 hnb hb3 B2
    obtain ⟨lt3, b0, b1, b2, b3⟩ := bx3
    have hsz : w.heap.size < W3.heap.size := Nat.lt_of_lt_of_le LT.out B3.out.size
    go_wp2_with fail
    first | (go_region_held3 (fun w' => w'.cell? ⟨w2.heap.size, 0, none⟩ = some (.int .u32 (n0 : Int)) ∧ w'.cell? ⟨w2.heap.size, 1, none⟩ = some (.int .i64 (n1 : Int)) ∧ w'.cell? ⟨w2.heap.size, 2, none⟩ = some (.int .i64 (n2 : Int)) ∧ w'.cell? ⟨w2.heap.size, 3, none⟩ = some (.bool x3) ∧ w'.cell? ⟨nb, 3, none⟩ = some (.int .u64 (n3 : Int)))
      (first | go_keep | (refine ⟨?_, ?_, ?_, ?_, ?_⟩ <;> assumption) | (exact ⟨(BX.out.cell (p := ⟨w2.heap.size, 0, none⟩) lt3).trans b0, (BX.out.cell (p := ⟨w2.heap.size, 1, none⟩) lt3).trans b1, (BX.out.cell (p := ⟨w2.heap.size, 2, none⟩) lt3).trans b2, (BX.out.cell (p := ⟨w2.heap.size, 3, none⟩) lt3).trans b3, (BX.out.cell (p := ⟨nb, 3, none⟩) hnb3).trans d3⟩))
      (first | (go_at_call 9; refine (R.out _).mono ?_; rintro e w4 ⟨rfl, hb⟩; have BX : Hid (Below W3.heap.size W3 w4) := (Below.refl _ _).drew.trans hb; clear hb) | (go_at_call 15; refine (M.out _).mono ?_; rintro e w5 ⟨rfl, rfl⟩))) | fail
    have h4 := (BX.out.block _ hsz).trans ((B3.out.block _ LT.out).trans H0.out)
    have H4 := Lib.hid h4
    have HB4 := Lib.hid (HB.out.trans ((B3.out.trans (BX.out.mono B3.out.size)).mono HB.out.size))
    have z0 : w4.cell? ⟨w.heap.size, 0, none⟩ = some (.int .u32 0) := by rw [cell_of_row _ _ _ _ _ _ h4]; rfl
    have z1 : w4.cell? ⟨w.heap.size, 1, none⟩ = some (.int .i64 0) := by rw [cell_of_row _ _ _ _ _ _ h4]; rfl
    have z2 : w4.cell? ⟨w.heap.size, 2, none⟩ = some (.int .i64 0) := by rw [cell_of_row _ _ _ _ _ _ h4]; rfl
    have z3 : w4.cell? ⟨w.heap.size, 3, none⟩ = some (.bool false) := by rw [cell_of_row _ _ _ _ _ _ h4]; rfl
    have zf := fun j => frozen_of_row (j := j) _ _ _ _ h4
    have f0 := (BX.out.cell (p := ⟨w2.heap.size, 0, none⟩) lt3).trans b0
    have f1 := (BX.out.cell (p := ⟨w2.heap.size, 1, none⟩) lt3).trans b1
    have f2 := (BX.out.cell (p := ⟨w2.heap.size, 2, none⟩) lt3).trans b2
    have f3 := (BX.out.cell (p := ⟨w2.heap.size, 3, none⟩) lt3).trans b3
    clear h4 b0 b1 b2 b3 d3
    go_wp2
    refine bodyPost_ret (results_four (p := 2) (u := 3) rfl _ _ w.heap.size _ _ _ _ _ rfl rfl (four_set H4.out _ _ _ _)) rfl ⟨rfl, ?_⟩
    exact below_four HB4.out (Nat.le_refl _) _ _ _ _


/-- May what stands there be a head? -/
def rdOk (q : List UInt8) : Bool := allZero (q.drop 11) && Hm.okN (Om.at_ q Hm.zs 0) (Om.at_ q Hm.zs 1) (Om.at_ q Hm.zs 2) (Om.at_ q Hm.zs 3)
theorem nums_small (q : List UInt8) (i k : Nat) (h : (Hm.zs.getD i 0).toNat ≤ k) : Om.at_ q Hm.zs i < 256 ^ k := by
  unfold Om.at_
  have h1 := Om.num_lt ((q.drop (Om.off Hm.zs i)).take (Hm.zs.getD i 0).toNat)
  have h2 : 256 ^ ((q.drop (Om.off Hm.zs i)).take (Hm.zs.getD i 0).toNat).length ≤ 256 ^ k := Nat.pow_le_pow_right (by omega) (by rw [List.length_take]; exact Nat.le_trans (Nat.min_le_left _ _) h)
  omega
theorem cast_one (n : Nat) : ((n : Int) == 1) = (n == 1) := by
  by_cases h : n = 1
  · subst h; rfl
  · rw [beq_eq_false_iff_ne.2 h, beq_eq_false_iff_ne]; omega
/-- read, of any bytes, eleven at least. -/
theorem hread_any (q : List UInt8) (w : World) (h : 11 ≤ q.length) (hl : q.length ≤ 60) :
    Calls Try.prog 22 #[.string (Om.B q)] w fun e w' => e = .returned (.tuple #[rdV (rdOk q) (Om.at_ q Hm.zs 0) (Om.at_ q Hm.zs 1) (Om.at_ q Hm.zs 2) (Om.at_ q Hm.zs 3 == 1), .bool (rdOk q)]) ∧ Below w.heap.size w w' := by
  unfold rdOk
  cases hz : allZero (q.drop 11) with
  | false =>
    rw [Bool.false_and, rdV_no]
    exact hread_rest q w h hl hz
  | true =>
    rw [Bool.true_and]
    have h0 : Om.at_ q Hm.zs 0 < 4294967296 := nums_small q 0 4 (by decide)
    have h1 : Om.at_ q Hm.zs 1 < 65536 := nums_small q 1 2 (by decide)
    have h2 : Om.at_ q Hm.zs 2 < 4294967296 := nums_small q 2 4 (by decide)
    have h3 : Om.at_ q Hm.zs 3 < 256 := nums_small q 3 1 (by decide)
    have G := Lib.hid (geth q h)
    have Z := Lib.hid (fun w1 => zero_any (q.drop 11) w1 (by rw [List.length_drop]; omega))
    rw [hz] at Z
    rw [← cast_one]
    obtain ⟨x3, hx3⟩ : ∃ x, (((Om.at_ q Hm.zs 3 : Nat) : Int) == 1) = x := ⟨_, rfl⟩
    have R := Lib.hid (fun w1 => hright_any (Om.at_ q Hm.zs 0) (Om.at_ q Hm.zs 1) (Om.at_ q Hm.zs 2) x3 w1)
    have M := Lib.hid (fun w1 => mark_any x3 w1)
    have hcase := read_cases (Hm.okH (Om.at_ q Hm.zs 0) (Om.at_ q Hm.zs 1) (Om.at_ q Hm.zs 2)) (Om.at_ q Hm.zs 3)
    rw [hx3] at hcase ⊢
    have hg : Hm.okN (Om.at_ q Hm.zs 0) (Om.at_ q Hm.zs 1) (Om.at_ q Hm.zs 2) (Om.at_ q Hm.zs 3) = (Hm.okH (Om.at_ q Hm.zs 0) (Om.at_ q Hm.zs 1) (Om.at_ q Hm.zs 2) && decide (Om.at_ q Hm.zs 3 ≤ 1)) := rfl
    rcases hcase with ⟨hok, he⟩ | ⟨hok, hm, he⟩ | ⟨hok, hm, he⟩
    · rw [hg, he, rdV_no]
      rw [hok] at R
      exact hread_f q _ _ _ _ _ _ x3 w h0 h1 h2 h3 hx3 G Z R M
    · rw [hg, he, rdV_no]
      rw [hok] at R
      exact hread_m q _ _ _ _ _ _ x3 w h0 h1 h2 h3 hx3 hm G Z R M
    · rw [hg, he, rdV_yes]
      rw [hok] at R
      exact hread_t q _ _ _ _ _ _ x3 w h0 h1 h2 h3 hx3 hm G Z R M
end Go.Proofs.Ytpocafiihdnnlaa
