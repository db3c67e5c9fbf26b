/- The contract of slot's read. -/
import Derived.Test.YtimfmmhbkgllpaaSlotEnc
import Derived.Test.YtimfmmhbkgllpaaOctetGet2
import Derived.Test.YtimfmmhbkgllpaaFour
namespace Go.Proofs.Ytimfmmhbkgllpaa
open Go.RowKit
set_option maxRecDepth 100000
set_option linter.unusedVariables false

theorem results_slot {fn : Func} {p u : Tmp} (h : fn.results = #[.cell p 27, .tmp u]) (tmps : Array Value) (w : World) (g : Nat) (x0 x1 x2 x3 v : Value)
    (hp : tmps.getD p undef = .pointer (some ⟨g, 0, none⟩)) (hu : tmps.getD u undef = v) (hg : w.heap[g]? = some (.cells #[x0, x1, x2, x3] 27 (0, 0))) :
    (results fn tmps).run Try.prog w = .ok (.tuple #[.agg #[x0, x1, x2, x3], v]) w := by
  have hi : (Try.prog.info? 27).map (·.size) = some (#[x0, x1, x2, x3] : Array Value).size := by kernel_rfl
  rw [results_cell_tmp h, hp, hu]
  simp [asAddr, run_loadVar_row w g 27 27 #[x0, x1, x2, x3] (0, 0) _ hg Try.underlying27 rfl hi, Result.andThen]

/-- What Get gives of a slot's numbers. -/
def GetT (r : List UInt8) (n0 n1 n2 n3 : Nat) (w : World) (e : Ending) (w' : World) : Prop :=
  ∃ nb : Nat, e = .returned (.tuple #[.slice (some ⟨nb, 0, none⟩) 4 4, .string (Om.B r), .int .i64 0]) ∧ nb < w'.heap.size ∧
    w'.cell? ⟨nb, 0, none⟩ = some (.int .u64 (n0 : Int)) ∧ w'.cell? ⟨nb, 1, none⟩ = some (.int .u64 (n1 : Int)) ∧ w'.cell? ⟨nb, 2, none⟩ = some (.int .u64 (n2 : Int)) ∧ w'.cell? ⟨nb, 3, none⟩ = some (.int .u64 (n3 : Int)) ∧ Below w.heap.size w w'
theorem gett (q : List UInt8) (h : 13 ≤ q.length) (a : Option Addr) (cap : Nat) (w : World) (hr : Row w w.heap.size a 4 (szs Tm.zs)) :
    Calls Try.prog 32 #[.string (Om.B q), .slice a 4 cap] w (GetT (q.drop 13) (Om.at_ q Tm.zs 0) (Om.at_ q Tm.zs 1) (Om.at_ q Tm.zs 2) (Om.at_ q Tm.zs 3) w) := by
  refine (get_full q Tm.zs w.heap.size a 4 cap w rfl (by omega) (Nat.le_refl _) hr (by decide) (by rw [show Om.off Tm.zs 4 = 13 by decide]; exact h)).mono ?_
  rintro e w' ⟨nb, he, _, h2, hc, hb⟩
  rw [show Om.off Tm.zs 4 = 13 by decide] at he
  exact ⟨nb, he, h2, hc 0 (by omega), hc 1 (by omega), hc 2 (by omega), hc 3 (by omega), hb⟩
/-- The result's block, made first. -/
theorem sresult_made (w W0 : World) (h : w.alloc (.cells #[.int .i64 0, .int .i64 0, .int .i64 0, .int .u32 0] 27) = W0) :
    Below w.heap.size w W0 ∧ W0.heap[w.heap.size]? = some (.cells #[.int .i64 0, .int .i64 0, .int .i64 0, .int .u32 0] 27 (0, 0)) ∧ w.heap.size < W0.heap.size := by
  subst h
  have h1 := heap_alloc_new w (.cells #[.int .i64 0, .int .i64 0, .int .i64 0, .int .u32 0] 27)
  exact ⟨(Below.refl _ w).alloc (Nat.le_refl _) _, h1, (Array.getElem?_eq_some_iff.1 h1).1⟩
theorem szero_cells {W : World} {g : Nat} {t : TypeId} (h : W.heap[g]? = some (.cells #[.int .i64 0, .int .i64 0, .int .i64 0, .int .u32 0] t (0, 0))) :
    W.cell? ⟨g, 0, none⟩ = some (.int .i64 0) ∧ W.cell? ⟨g, 1, none⟩ = some (.int .i64 0) ∧ W.cell? ⟨g, 2, none⟩ = some (.int .i64 0) ∧ W.cell? ⟨g, 3, none⟩ = some (.int .u32 0) ∧ ∀ j, W.frozen? ⟨g, j, none⟩ = false :=
  ⟨by rw [cell_of_row _ _ _ _ _ _ h]; rfl, by rw [cell_of_row _ _ _ _ _ _ h]; rfl, by rw [cell_of_row _ _ _ _ _ _ h]; rfl, by rw [cell_of_row _ _ _ _ _ _ h]; rfl, fun j => frozen_of_row (j := j) _ _ _ _ h⟩
/-- What read gives. -/
def srdV (good : Bool) (t a n g : Nat) : Value := if good = true then Sv t a n g else Sv 0 0 0 0
theorem srdV_no (t a n g : Nat) : srdV false t a n g = Sv 0 0 0 0 := rfl
theorem srdV_yes (t a n g : Nat) : srdV true t a n g = Sv t a n g := rfl

set_option maxHeartbeats 800000 in
/-- Bytes that are not 0 behind the numbers. -/
theorem sread_rest (q r : List UInt8) (n0 n1 n2 n3 : Nat) (w : World)
    (G : Hid (∀ a cap w1, Row w1 w1.heap.size a 4 (szs Tm.zs) → Calls Try.prog 32 #[.string (Om.B q), .slice a 4 cap] w1 (GetT r n0 n1 n2 n3 w1)))
    (Z : Hid (∀ w1, Calls Try.prog 33 #[.string (Om.B r)] w1 fun e w' => e = .returned (.bool false) ∧ w1 = w')) :
    Calls Try.prog 21 #[.string (Om.B q)] w fun e w' => e = .returned (.tuple #[Sv 0 0 0 0, .bool false]) ∧ Below w.heap.size w w' := by
  have SZ := Lib.hid ssizes_at
  unfold GetT at G
  obtain ⟨W0, hW0⟩ : ∃ W0, w.alloc (.cells #[.int .i64 0, .int .i64 0, .int .i64 0, .int .u32 0] 27) = W0 := ⟨_, rfl⟩
  obtain ⟨hB, h0, lt⟩ := sresult_made w W0 hW0
  have HB := Lib.hid hB
  have H0 := Lib.hid h0
  have LT := Lib.hid lt
  unfold Sv
  clear hB h0 lt
  go_enter Try.func21, Try.ntmps21
  go_wp2_with fail
  clear hW0
  refine (SZ.out _).mono ?_
  rintro e w1 ⟨ks, rfl, hr1, hb1⟩
  have HR1 := Lib.hid hr1
  have B1 := Lib.hid hb1
  clear hr1 hb1
  go_wp2_with fail
  refine (G.out _ _ _ HR1.out).mono ?_
  rintro e w2 ⟨nb, rfl, hnb, c0, c1, c2, c3, hb2⟩
  have B2 := Lib.hid (B1.out.trans (hb2.mono B1.out.size))
  clear hb2
  go_wp2_with fail
  refine (Z.out _).mono ?_
  rintro e w3 ⟨rfl, rfl⟩
  clear hnb c0 c1 c2 c3
  have h3 := (B2.out.block _ LT.out).trans H0.out
  have H3 := Lib.hid h3
  have HB2 := Lib.hid (HB.out.trans (B2.out.mono HB.out.size))
  obtain ⟨z0, z1, z2, z3, zf⟩ := szero_cells h3
  clear h3
  go_wp2
  refine bodyPost_ret (results_slot (p := 2) (u := 3) rfl _ _ w.heap.size _ _ _ _ _ rfl rfl (four_set H3.out _ _ _ _)) rfl ⟨rfl, ?_⟩
  exact below_four HB2.out (Nat.le_refl _) _ _ _ _

set_option maxHeartbeats 800000 in
theorem sread_f (q r : List UInt8) (n0 n1 n2 n3 : Nat) (w : World) (h0 : n0 < 256) (h1 : n1 < 4294967296) (h2 : n2 < 4294967296) (h3 : n3 < 4294967296)
    (G : Hid (∀ a cap w1, Row w1 w1.heap.size a 4 (szs Tm.zs) → Calls Try.prog 32 #[.string (Om.B q), .slice a 4 cap] w1 (GetT r n0 n1 n2 n3 w1)))
    (Z : Hid (∀ w1, Calls Try.prog 33 #[.string (Om.B r)] w1 fun e w' => e = .returned (.bool true) ∧ w1 = w'))
    (R : Hid (∀ w1, Calls Try.prog 9 #[Sv n0 n1 n2 n3] w1 fun e w' => e = .returned (.bool false) ∧ Below w1.heap.size w1 w')) :
    Calls Try.prog 21 #[.string (Om.B q)] w fun e w' => e = .returned (.tuple #[Sv 0 0 0 0, .bool false]) ∧ Below w.heap.size w w' := by
  have e0 : IntKind.i64.wrap (n0 : Int) = (n0 : Int) := IntWalk.i64_in _ (by omega)
  have e1 : IntKind.i64.wrap (n1 : Int) = (n1 : Int) := IntWalk.i64_in _ (by omega)
  have e2 : IntKind.i64.wrap (n2 : Int) = (n2 : Int) := IntWalk.i64_in _ (by omega)
  have e3 : IntKind.u32.wrap (n3 : Int) = (n3 : Int) := IntWalk.u32_in _ (by omega)
  clear h0 h1 h2 h3
  have SZ := Lib.hid ssizes_at
  unfold GetT at G
  obtain ⟨W0, hW0⟩ : ∃ W0, w.alloc (.cells #[.int .i64 0, .int .i64 0, .int .i64 0, .int .u32 0] 27) = W0 := ⟨_, rfl⟩
  obtain ⟨hB, h0, lt⟩ := sresult_made w W0 hW0
  have HB := Lib.hid hB
  have H0 := Lib.hid h0
  have LT := Lib.hid lt
  unfold Sv at R ⊢
  clear hB h0 lt
  go_enter Try.func21, Try.ntmps21
  go_wp2_with fail
  clear hW0
  refine (SZ.out _).mono ?_
  rintro e w1 ⟨ks, rfl, hr1, hb1⟩
  have HR1 := Lib.hid hr1
  have B1 := Lib.hid hb1
  clear hr1 hb1
  go_wp2_with fail
  refine (G.out _ _ _ HR1.out).mono ?_
  rintro e w2 ⟨nb, rfl, hnb, c0, c1, c2, c3, hb2⟩
  have B2 := Lib.hid (B1.out.trans (hb2.mono B1.out.size))
  clear hb2
  go_wp2_with fail
  refine (Z.out _).mono ?_
  rintro e w3 ⟨rfl, rfl⟩
  go_wp2
  go_region_held3 (fun w' => w'.cell? ⟨nb, 0, none⟩ = some (.int .u64 (n0 : Int)) ∧ w'.cell? ⟨nb, 1, none⟩ = some (.int .u64 (n1 : Int)) ∧ w'.cell? ⟨nb, 2, none⟩ = some (.int .u64 (n2 : Int)) ∧ w'.cell? ⟨nb, 3, none⟩ = some (.int .u64 (n3 : Int)))
    (first | go_keep | (refine ⟨?_, ?_, ?_, ?_⟩ <;> assumption))
    (fail)
  all_goals
    obtain ⟨W3, hW3⟩ : ∃ W3, (w2.alloc (.cells #[.int .i64 (n0 : Int), .int .i64 (n1 : Int), .int .i64 (n2 : Int), .int .u32 (n3 : Int)] 27)).drew = W3 := ⟨_, rfl⟩
    have hb3 : Below w2.heap.size w2 W3 := by rw [← hW3]; exact ((Below.refl _ _).alloc (Nat.le_refl _) _).drew
    have bx3 : Tx W3 w2.heap.size n0 n1 n2 n3 := by rw [← hW3]; exact tx_row (heap_alloc_new w2 _)
    rw [hW3]
    have B3 := Lib.hid (B2.out.trans (hb3.mono B2.out.size))
    have BX3 := Lib.hid bx3
    clear hW3 c0 c1 c2 c3 hnb hb3 B2
    obtain ⟨lt3, b0, b1, b2, b3⟩ := bx3
    have hsz : w.heap.size < W3.heap.size := Nat.lt_of_lt_of_le LT.out B3.out.size
    go_wp2_with fail
    refine (R.out _).mono ?_
    rintro e w4 ⟨rfl, hb4⟩
    have h4 := (hb4.block _ hsz).trans ((B3.out.block _ LT.out).trans H0.out)
    have H4 := Lib.hid h4
    have HB4 := Lib.hid (HB.out.trans ((B3.out.trans (hb4.mono B3.out.size)).mono HB.out.size))
    obtain ⟨z0, z1, z2, z3, zf⟩ := szero_cells h4
    clear b0 b1 b2 b3
    obtain ⟨_, b0, b1, b2, b3⟩ := BX3.out.next hb4
    clear h4 hb4
    go_wp2
    refine bodyPost_ret (results_slot (p := 2) (u := 3) rfl _ _ w.heap.size _ _ _ _ _ rfl rfl (four_set H4.out _ _ _ _)) rfl ⟨rfl, ?_⟩
    exact below_four HB4.out (Nat.le_refl _) _ _ _ _

set_option maxHeartbeats 800000 in
theorem sread_t (q r : List UInt8) (n0 n1 n2 n3 : Nat) (w : World) (h0 : n0 < 256) (h1 : n1 < 4294967296) (h2 : n2 < 4294967296) (h3 : n3 < 4294967296)
    (G : Hid (∀ a cap w1, Row w1 w1.heap.size a 4 (szs Tm.zs) → Calls Try.prog 32 #[.string (Om.B q), .slice a 4 cap] w1 (GetT r n0 n1 n2 n3 w1)))
    (Z : Hid (∀ w1, Calls Try.prog 33 #[.string (Om.B r)] w1 fun e w' => e = .returned (.bool true) ∧ w1 = w'))
    (R : Hid (∀ w1, Calls Try.prog 9 #[Sv n0 n1 n2 n3] w1 fun e w' => e = .returned (.bool true) ∧ Below w1.heap.size w1 w')) :
    Calls Try.prog 21 #[.string (Om.B q)] w fun e w' => e = .returned (.tuple #[Sv n0 n1 n2 n3, .bool true]) ∧ Below w.heap.size w w' := by
  have e0 : IntKind.i64.wrap (n0 : Int) = (n0 : Int) := IntWalk.i64_in _ (by omega)
  have e1 : IntKind.i64.wrap (n1 : Int) = (n1 : Int) := IntWalk.i64_in _ (by omega)
  have e2 : IntKind.i64.wrap (n2 : Int) = (n2 : Int) := IntWalk.i64_in _ (by omega)
  have e3 : IntKind.u32.wrap (n3 : Int) = (n3 : Int) := IntWalk.u32_in _ (by omega)
  clear h0 h1 h2 h3
  have SZ := Lib.hid ssizes_at
  unfold GetT at G
  obtain ⟨W0, hW0⟩ : ∃ W0, w.alloc (.cells #[.int .i64 0, .int .i64 0, .int .i64 0, .int .u32 0] 27) = W0 := ⟨_, rfl⟩
  obtain ⟨hB, h0, lt⟩ := sresult_made w W0 hW0
  have HB := Lib.hid hB
  have H0 := Lib.hid h0
  have LT := Lib.hid lt
  unfold Sv at R ⊢
  clear hB h0 lt
  go_enter Try.func21, Try.ntmps21
  go_wp2_with fail
  clear hW0
  refine (SZ.out _).mono ?_
  rintro e w1 ⟨ks, rfl, hr1, hb1⟩
  have HR1 := Lib.hid hr1
  have B1 := Lib.hid hb1
  clear hr1 hb1
  go_wp2_with fail
  refine (G.out _ _ _ HR1.out).mono ?_
  rintro e w2 ⟨nb, rfl, hnb, c0, c1, c2, c3, hb2⟩
  have B2 := Lib.hid (B1.out.trans (hb2.mono B1.out.size))
  clear hb2
  go_wp2_with fail
  refine (Z.out _).mono ?_
  rintro e w3 ⟨rfl, rfl⟩
  go_wp2
  go_region_held3 (fun w' => w'.cell? ⟨nb, 0, none⟩ = some (.int .u64 (n0 : Int)) ∧ w'.cell? ⟨nb, 1, none⟩ = some (.int .u64 (n1 : Int)) ∧ w'.cell? ⟨nb, 2, none⟩ = some (.int .u64 (n2 : Int)) ∧ w'.cell? ⟨nb, 3, none⟩ = some (.int .u64 (n3 : Int)))
    (first | go_keep | (refine ⟨?_, ?_, ?_, ?_⟩ <;> assumption))
    (fail)
  all_goals
    obtain ⟨W3, hW3⟩ : ∃ W3, (w2.alloc (.cells #[.int .i64 (n0 : Int), .int .i64 (n1 : Int), .int .i64 (n2 : Int), .int .u32 (n3 : Int)] 27)).drew = W3 := ⟨_, rfl⟩
    have hb3 : Below w2.heap.size w2 W3 := by rw [← hW3]; exact ((Below.refl _ _).alloc (Nat.le_refl _) _).drew
    have bx3 : Tx W3 w2.heap.size n0 n1 n2 n3 := by rw [← hW3]; exact tx_row (heap_alloc_new w2 _)
    rw [hW3]
    have B3 := Lib.hid (B2.out.trans (hb3.mono B2.out.size))
    have BX3 := Lib.hid bx3
    clear hW3 c0 c1 c2 c3 hnb hb3 B2
    obtain ⟨lt3, b0, b1, b2, b3⟩ := bx3
    have hsz : w.heap.size < W3.heap.size := Nat.lt_of_lt_of_le LT.out B3.out.size
    go_wp2_with fail
    refine (R.out _).mono ?_
    rintro e w4 ⟨rfl, hb4⟩
    have h4 := (hb4.block _ hsz).trans ((B3.out.block _ LT.out).trans H0.out)
    have H4 := Lib.hid h4
    have HB4 := Lib.hid (HB.out.trans ((B3.out.trans (hb4.mono B3.out.size)).mono HB.out.size))
    obtain ⟨z0, z1, z2, z3, zf⟩ := szero_cells h4
    clear b0 b1 b2 b3
    obtain ⟨_, b0, b1, b2, b3⟩ := BX3.out.next hb4
    clear h4 hb4
    go_wp2
    refine bodyPost_ret (results_slot (p := 2) (u := 3) rfl _ _ w.heap.size _ _ _ _ _ rfl rfl (four_set H4.out _ _ _ _)) rfl ⟨rfl, ?_⟩
    exact below_four HB4.out (Nat.le_refl _) _ _ _ _


/-- May what stands there be a slot? -/
def srdOk (q : List UInt8) : Bool := allZero (q.drop 13) && Tm.okN (Om.at_ q Tm.zs 0) (Om.at_ q Tm.zs 1) (Om.at_ q Tm.zs 2) (Om.at_ q Tm.zs 3)
theorem tnums_small (q : List UInt8) (i k : Nat) (h : (Tm.zs.getD i 0).toNat ≤ k) : Om.at_ q Tm.zs i < 256 ^ k := by
  unfold Om.at_
  have h1 := Om.num_lt ((q.drop (Om.off Tm.zs i)).take (Tm.zs.getD i 0).toNat)
  have h2 : 256 ^ ((q.drop (Om.off Tm.zs i)).take (Tm.zs.getD i 0).toNat).length ≤ 256 ^ k := Nat.pow_le_pow_right (by omega) (by rw [List.length_take]; exact Nat.le_trans (Nat.min_le_left _ _) h)
  omega
/-- read, of any bytes, thirteen at least. -/
theorem sread_any (q : List UInt8) (w : World) (h : 13 ≤ q.length) (hl : q.length ≤ 60) :
    Calls Try.prog 21 #[.string (Om.B q)] w fun e w' => e = .returned (.tuple #[srdV (srdOk q) (Om.at_ q Tm.zs 0) (Om.at_ q Tm.zs 1) (Om.at_ q Tm.zs 2) (Om.at_ q Tm.zs 3), .bool (srdOk q)]) ∧ Below w.heap.size w w' := by
  unfold srdOk
  have G := Lib.hid (gett q h)
  have Z := Lib.hid (fun w1 => zero_any (q.drop 13) w1 (by rw [List.length_drop]; omega))
  cases hz : allZero (q.drop 13) with
  | false =>
    rw [hz] at Z
    rw [Bool.false_and, srdV_no]
    exact sread_rest q _ _ _ _ _ w G Z
  | true =>
    rw [hz] at Z
    rw [Bool.true_and]
    have h0 : Om.at_ q Tm.zs 0 < 256 := tnums_small q 0 1 (by decide)
    have h1 : Om.at_ q Tm.zs 1 < 4294967296 := tnums_small q 1 4 (by decide)
    have h2 : Om.at_ q Tm.zs 2 < 4294967296 := tnums_small q 2 4 (by decide)
    have h3 : Om.at_ q Tm.zs 3 < 4294967296 := tnums_small q 3 4 (by decide)
    have R := Lib.hid (fun w1 => sright_any (Om.at_ q Tm.zs 0) (Om.at_ q Tm.zs 1) (Om.at_ q Tm.zs 2) (Om.at_ q Tm.zs 3) w1 (by omega))
    cases hok : Tm.okN (Om.at_ q Tm.zs 0) (Om.at_ q Tm.zs 1) (Om.at_ q Tm.zs 2) (Om.at_ q Tm.zs 3) with
    | false =>
      have hok' : Tm.okT (Om.at_ q Tm.zs 0) (Om.at_ q Tm.zs 1) (Om.at_ q Tm.zs 2) (Om.at_ q Tm.zs 3) = false := hok
      rw [srdV_no]
      rw [hok'] at R
      exact sread_f q _ _ _ _ _ w h0 h1 h2 h3 G Z R
    | true =>
      have hok' : Tm.okT (Om.at_ q Tm.zs 0) (Om.at_ q Tm.zs 1) (Om.at_ q Tm.zs 2) (Om.at_ q Tm.zs 3) = true := hok
      rw [srdV_yes]
      rw [hok'] at R
      exact sread_t q _ _ _ _ _ w h0 h1 h2 h3 G Z R
end Go.Proofs.Ytimfmmhbkgllpaa
