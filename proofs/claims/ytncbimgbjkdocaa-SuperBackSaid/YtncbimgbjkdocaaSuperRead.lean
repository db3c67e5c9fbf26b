/- The contract of super's read: it gives the superblock, or panics with what is wrong. -/
import Derived.Test.YtncbimgbjkdocaaSuperEnc
import Derived.Test.YtncbimgbjkdocaaCutPrefix
import Derived.Test.YtncbimgbjkdocaaFour
namespace Go.Proofs.Ytncbimgbjkdocaa
open Go.RowKit
set_option maxRecDepth 100000
set_option linter.unusedVariables false

/-- What stops a reading. -/
def wrongE (x : Int) : Ending := .panicked [{ v := .iface 45 (.agg #[.int .i64 x]), recovered := false }]
/-- What Get gives of a superblock's numbers. -/
def GetU (r : List UInt8) (n0 n1 n2 : Nat) (w : World) (e : Ending) (w' : World) : Prop :=
  ∃ nb : Nat, e = .returned (.tuple #[.slice (some ⟨nb, 0, none⟩) 3 3, .string (Om.B r), .int .i64 0]) ∧ nb < w'.heap.size ∧
    w'.cell? ⟨nb, 0, none⟩ = some (.int .u64 (n0 : Int)) ∧ w'.cell? ⟨nb, 1, none⟩ = some (.int .u64 (n1 : Int)) ∧ w'.cell? ⟨nb, 2, none⟩ = some (.int .u64 (n2 : Int)) ∧ Below w.heap.size w w'
theorem getu (q : List UInt8) (h : 12 ≤ q.length) (a : Option Addr) (cap : Nat) (w : World) (hr : Row w w.heap.size a 3 (szs Um.zs)) :
    Calls Try.prog 33 #[.string (Om.B q), .slice a 3 cap] w (GetU (q.drop 12) (Om.at_ q Um.zs 0) (Om.at_ q Um.zs 1) (Om.at_ q Um.zs 2) w) := by
  refine (get_full q Um.zs w.heap.size a 3 cap w rfl (by omega) (Nat.le_refl _) hr (by decide) (by rw [show Om.off Um.zs 3 = 12 by decide]; exact h)).mono ?_
  rintro e w' ⟨nb, he, _, h2, hc, hb⟩
  rw [show Om.off Um.zs 3 = 12 by decide] at he
  exact ⟨nb, he, h2, hc 0 (by omega), hc 1 (by omega), hc 2 (by omega), hb⟩
/-- The result's block, made first. -/
theorem uresult_made (w W0 : World) (h : w.alloc (.cells #[.int .i64 0, .int .i64 0, .int .i64 0] 23) = W0) :
    Below w.heap.size w W0 ∧ W0.heap[w.heap.size]? = some (.cells #[.int .i64 0, .int .i64 0, .int .i64 0] 23 (0, 0)) ∧ w.heap.size < W0.heap.size := by
  subst h
  have h1 := heap_alloc_new w (.cells #[.int .i64 0, .int .i64 0, .int .i64 0] 23)
  exact ⟨(Below.refl _ w).alloc (Nat.le_refl _) _, h1, (Array.getElem?_eq_some_iff.1 h1).1⟩
theorem uzero_cells {W : World} {g : Nat} {t : TypeId} (h : W.heap[g]? = some (.cells #[.int .i64 0, .int .i64 0, .int .i64 0] t (0, 0))) :
    W.cell? ⟨g, 0, none⟩ = some (.int .i64 0) ∧ W.cell? ⟨g, 1, none⟩ = some (.int .i64 0) ∧ W.cell? ⟨g, 2, none⟩ = some (.int .i64 0) ∧ ∀ j, W.frozen? ⟨g, j, none⟩ = false :=
  ⟨by rw [cell_of_row _ _ _ _ _ _ h]; rfl, by rw [cell_of_row _ _ _ _ _ _ h]; rfl, by rw [cell_of_row _ _ _ _ _ _ h]; rfl, fun j => frozen_of_row (j := j) _ _ _ _ h⟩
theorem usuper_info : (Try.prog.info? 23).map (·.size) = some (#[.int .i64 0, .int .i64 0, .int .i64 0] : Array Value).size := by kernel_rfl

theorem uread_cut (s : List UInt8) (w : World) (h : s.length ≠ 64) :
    Calls Try.prog 20 #[.string (Om.B s)] w fun e w' => e = wrongE 21 ∧ Below w.heap.size w w' := by
  have heq : (((Om.B s).size : Int) == 64) = false := by rw [beq_eq_false_iff_ne, Om.B_size]; omega
  obtain ⟨W0, hW0⟩ : ∃ W0, w.alloc (.cells #[.int .i64 0, .int .i64 0, .int .i64 0] 23) = W0 := ⟨_, rfl⟩
  obtain ⟨hB, h0, lt⟩ := uresult_made w W0 hW0
  have HB := Lib.hid hB
  have H0 := Lib.hid h0
  have LT := Lib.hid lt
  have NY := Lib.hid need_yes
  have NN := Lib.hid need_no
  unfold wrongE
  clear h hB h0 lt
  go_enter Try.func20, Try.ntmps20
  go_wp2_with fail
  clear hW0
  refine (NN.out _ _).mono ?_
  rintro e w1 ⟨rfl, rfl⟩
  go_wp2
  exact ⟨rfl, rfl, HB.out⟩

theorem uread_sum (s : List UInt8) (w : World) (h : s.length = 64) (hg : Cm.good s = false) :
    Calls Try.prog 20 #[.string (Om.B s)] w fun e w' => e = wrongE 31 ∧ Below w.heap.size w w' := by
  have heq : (((Om.B s).size : Int) == 64) = true := by rw [beq_iff_eq, Om.B_size]; omega
  have hc := fun w1 => open_any s w1 (by omega) (by omega)
  rw [hg] at hc
  have C := Lib.hid hc
  obtain ⟨W0, hW0⟩ : ∃ W0, w.alloc (.cells #[.int .i64 0, .int .i64 0, .int .i64 0] 23) = W0 := ⟨_, rfl⟩
  obtain ⟨hB, h0, lt⟩ := uresult_made w W0 hW0
  have HB := Lib.hid hB
  have H0 := Lib.hid h0
  have LT := Lib.hid lt
  have NY := Lib.hid need_yes
  have NN := Lib.hid need_no
  unfold wrongE
  clear h hB h0 lt hg hc
  go_enter Try.func20, Try.ntmps20
  go_wp2_with fail
  clear hW0
  refine (NY.out _ _).mono ?_
  rintro e w1 ⟨rfl, rfl⟩
  go_wp2_with fail
  refine (C.out _).mono ?_
  rintro e w2 ⟨he, hb⟩
  obtain rfl : e = .returned (.tuple #[.string (Om.B []), .int .i64 31]) := he
  have HB2 := Lib.hid (HB.out.trans (hb.mono HB.out.size))
  clear hb
  go_wp2_with fail
  refine (NN.out _ _).mono ?_
  rintro e w3 ⟨rfl, rfl⟩
  go_wp2
  exact ⟨rfl, rfl, HB2.out⟩

theorem uread_magic (s : List UInt8) (w : World) (h : s.length = 64) (hg : Cm.good s = true) (ht : (s.take 60).take 4 ≠ Um.ts) :
    Calls Try.prog 20 #[.string (Om.B s)] w fun e w' => e = wrongE 22 ∧ Below w.heap.size w w' := by
  have heq : (((Om.B s).size : Int) == 64) = true := by rw [beq_iff_eq, Om.B_size]; omega
  have hc := fun w1 => open_any s w1 (by omega) (by omega)
  have hbl : (s.take 60).length = 60 := by rw [List.length_take]; omega
  rw [hg, h] at hc
  obtain ⟨b, hb⟩ : ∃ b, b = s.take 60 := ⟨_, rfl⟩
  have hc' : ∀ w1, Calls Try.prog 31 #[.string (Om.B s)] w1 fun e w' => e = .returned (.tuple #[.string (Om.B b), .int .i64 0]) ∧ Below w1.heap.size w1 w' := fun w1 => by
    rw [hb]
    exact (hc w1).mono fun e w' h => h
  rw [← hb] at ht hbl
  have C := Lib.hid hc'
  have M := Lib.hid (fun w1 => cut_no b Um.ts w1 (by rw [hbl]; decide) ht)
  have hts : Om.B Um.ts = ⟨#[79, 65, 75, 49]⟩ := rfl
  rw [hts] at M
  obtain ⟨W0, hW0⟩ : ∃ W0, w.alloc (.cells #[.int .i64 0, .int .i64 0, .int .i64 0] 23) = W0 := ⟨_, rfl⟩
  obtain ⟨hB, h0, lt⟩ := uresult_made w W0 hW0
  have HB := Lib.hid hB
  have H0 := Lib.hid h0
  have LT := Lib.hid lt
  have NY := Lib.hid need_yes
  have NN := Lib.hid need_no
  unfold wrongE
  clear h hB h0 lt hg hc hc' ht hb hts hbl
  go_enter Try.func20, Try.ntmps20
  go_wp2_with fail
  clear hW0
  refine (NY.out _ _).mono ?_
  rintro e w1 ⟨rfl, rfl⟩
  go_wp2_with fail
  refine (C.out _).mono ?_
  rintro e w2 ⟨rfl, hb2⟩
  have B2 := Lib.hid hb2
  clear hb2
  go_wp2_with fail
  refine (NY.out _ _).mono ?_
  rintro e w3 ⟨rfl, rfl⟩
  go_wp2_with fail
  refine (M.out _).mono ?_
  rintro e w4 ⟨rfl, rfl⟩
  go_wp2_with fail
  refine (NN.out _ _).mono ?_
  rintro e w5 ⟨rfl, rfl⟩
  go_wp2
  exact ⟨rfl, rfl, HB.out.trans (B2.out.mono HB.out.size)⟩

theorem uread_rest (s : List UInt8) (q r : List UInt8) (n0 n1 n2 : Nat) (w : World) (h : s.length = 64) (hg : Cm.good s = true) (ht : (s.take 60).take 4 = Um.ts) (hq : q = (s.take 60).drop 4)
    (G : Hid (∀ a cap w1, Row w1 w1.heap.size a 3 (szs Um.zs) → Calls Try.prog 33 #[.string (Om.B q), .slice a 3 cap] w1 (GetU r n0 n1 n2 w1)))
    (Z : Hid (∀ w1, Calls Try.prog 34 #[.string (Om.B r)] w1 fun e w' => e = .returned (.bool false) ∧ w1 = w')) :
    Calls Try.prog 20 #[.string (Om.B s)] w fun e w' => e = wrongE 32 ∧ Below w.heap.size w w' := by
  have heq : (((Om.B s).size : Int) == 64) = true := by rw [beq_iff_eq, Om.B_size]; omega
  have hc := fun w1 => open_any s w1 (by omega) (by omega)
  have hbl : (s.take 60).length = 60 := by rw [List.length_take]; omega
  rw [hg, h] at hc
  obtain ⟨b, hb⟩ : ∃ b, b = s.take 60 := ⟨_, rfl⟩
  have hc' : ∀ w1, Calls Try.prog 31 #[.string (Om.B s)] w1 fun e w' => e = .returned (.tuple #[.string (Om.B b), .int .i64 0]) ∧ Below w1.heap.size w1 w' := fun w1 => by
    rw [hb]
    exact (hc w1).mono fun e w' h => h
  rw [← hb] at ht hbl
  have C := Lib.hid hc'
  have M := Lib.hid (fun w1 => cut_yes b Um.ts w1 (by rw [hbl]; decide) ht)
  have hts : Om.B Um.ts = ⟨#[79, 65, 75, 49]⟩ := rfl
  rw [hts, show b.drop Um.ts.length = b.drop 4 from rfl] at M
  have hq' : b.drop 4 = q := by rw [hq, hb]
  rw [hq'] at M
  have SZ := Lib.hid usizes_at
  unfold GetU at G
  obtain ⟨W0, hW0⟩ : ∃ W0, w.alloc (.cells #[.int .i64 0, .int .i64 0, .int .i64 0] 23) = W0 := ⟨_, rfl⟩
  obtain ⟨hB, h0, lt⟩ := uresult_made w W0 hW0
  have HB := Lib.hid hB
  have H0 := Lib.hid h0
  have LT := Lib.hid lt
  have NY := Lib.hid need_yes
  have NN := Lib.hid need_no
  unfold wrongE
  clear h hB h0 lt hg hc hc' ht hb hts hbl hq hq'
  go_enter Try.func20, Try.ntmps20
  go_wp2_with fail
  clear hW0
  refine (NY.out _ _).mono ?_
  rintro e w1 ⟨rfl, rfl⟩
  go_wp2_with fail
  refine (C.out _).mono ?_
  rintro e w2 ⟨rfl, hb2⟩
  have B2 := Lib.hid hb2
  clear hb2
  go_wp2_with fail
  refine (NY.out _ _).mono ?_
  rintro e w3 ⟨rfl, rfl⟩
  go_wp2_with fail
  refine (M.out _).mono ?_
  rintro e w4 ⟨rfl, rfl⟩
  go_wp2_with fail
  refine (NY.out _ _).mono ?_
  rintro e w5 ⟨rfl, rfl⟩
  go_wp2_with fail
  refine (SZ.out _).mono ?_
  rintro e w6 ⟨ks, rfl, hr6, hb6⟩
  have HR6 := Lib.hid hr6
  have B6 := Lib.hid (B2.out.trans (hb6.mono B2.out.size))
  clear hr6 hb6 B2
  go_wp2_with fail
  refine (G.out _ _ _ HR6.out).mono ?_
  rintro e w7 ⟨nb, rfl, hnb, c0, c1, c2, hb7⟩
  have B7 := Lib.hid (B6.out.trans (hb7.mono B6.out.size))
  clear hb7 B6
  go_wp2_with fail
  refine (Z.out _).mono ?_
  rintro e w8 ⟨rfl, rfl⟩
  go_wp2_with fail
  clear c0 c1 c2 hnb
  refine (NN.out _ _).mono ?_
  rintro e w9 ⟨rfl, rfl⟩
  go_wp2
  exact ⟨rfl, rfl, HB.out.trans (B7.out.mono HB.out.size)⟩

set_option maxHeartbeats 800000 in
theorem uread_form (s : List UInt8) (q r : List UInt8) (n0 n1 n2 : Nat) (w : World) (h : s.length = 64) (hg : Cm.good s = true) (ht : (s.take 60).take 4 = Um.ts) (hq : q = (s.take 60).drop 4) (k0 : n0 < 4294967296) (k1 : n1 < 4294967296) (k2 : n2 < 4294967296)
    (G : Hid (∀ a cap w1, Row w1 w1.heap.size a 3 (szs Um.zs) → Calls Try.prog 33 #[.string (Om.B q), .slice a 3 cap] w1 (GetU r n0 n1 n2 w1)))
    (Z : Hid (∀ w1, Calls Try.prog 34 #[.string (Om.B r)] w1 fun e w' => e = .returned (.bool true) ∧ w1 = w'))
    (R : Hid (∀ w1, Calls Try.prog 9 #[Uv n0 n1 n2] w1 fun e w' => e = .returned (.bool false) ∧ Below w1.heap.size w1 w')) :
    Calls Try.prog 20 #[.string (Om.B s)] w fun e w' => e = wrongE 32 ∧ Below w.heap.size w w' := by
  have e0 : IntKind.i64.wrap (n0 : Int) = (n0 : Int) := IntWalk.i64_in _ (by omega)
  have e1 : IntKind.i64.wrap (n1 : Int) = (n1 : Int) := IntWalk.i64_in _ (by omega)
  have e2 : IntKind.i64.wrap (n2 : Int) = (n2 : Int) := IntWalk.i64_in _ (by omega)
  have heq : (((Om.B s).size : Int) == 64) = true := by rw [beq_iff_eq, Om.B_size]; omega
  have hc := fun w1 => open_any s w1 (by omega) (by omega)
  have hbl : (s.take 60).length = 60 := by rw [List.length_take]; omega
  rw [hg, h] at hc
  obtain ⟨b, hb⟩ : ∃ b, b = s.take 60 := ⟨_, rfl⟩
  have hc' : ∀ w1, Calls Try.prog 31 #[.string (Om.B s)] w1 fun e w' => e = .returned (.tuple #[.string (Om.B b), .int .i64 0]) ∧ Below w1.heap.size w1 w' := fun w1 => by
    rw [hb]
    exact (hc w1).mono fun e w' h => h
  rw [← hb] at ht hbl
  have C := Lib.hid hc'
  have M := Lib.hid (fun w1 => cut_yes b Um.ts w1 (by rw [hbl]; decide) ht)
  have hts : Om.B Um.ts = ⟨#[79, 65, 75, 49]⟩ := rfl
  rw [hts, show b.drop Um.ts.length = b.drop 4 from rfl] at M
  have hq' : b.drop 4 = q := by rw [hq, hb]
  rw [hq'] at M
  have SZ := Lib.hid usizes_at
  unfold GetU at G
  obtain ⟨W0, hW0⟩ : ∃ W0, w.alloc (.cells #[.int .i64 0, .int .i64 0, .int .i64 0] 23) = W0 := ⟨_, rfl⟩
  obtain ⟨hB, h0, lt⟩ := uresult_made w W0 hW0
  have HB := Lib.hid hB
  have H0 := Lib.hid h0
  have LT := Lib.hid lt
  have NY := Lib.hid need_yes
  have NN := Lib.hid need_no
  unfold wrongE
  unfold Uv at R
  clear h hB h0 lt hg hc hc' ht hb hts hbl hq hq' k0 k1 k2
  go_enter Try.func20, Try.ntmps20
  go_wp2_with fail
  clear hW0
  refine (NY.out _ _).mono ?_
  rintro e w1 ⟨rfl, rfl⟩
  go_wp2_with fail
  refine (C.out _).mono ?_
  rintro e w2 ⟨rfl, hb2⟩
  have B2 := Lib.hid hb2
  clear hb2
  go_wp2_with fail
  refine (NY.out _ _).mono ?_
  rintro e w3 ⟨rfl, rfl⟩
  go_wp2_with fail
  refine (M.out _).mono ?_
  rintro e w4 ⟨rfl, rfl⟩
  go_wp2_with fail
  refine (NY.out _ _).mono ?_
  rintro e w5 ⟨rfl, rfl⟩
  go_wp2_with fail
  refine (SZ.out _).mono ?_
  rintro e w6 ⟨ks, rfl, hr6, hb6⟩
  have HR6 := Lib.hid hr6
  have B6 := Lib.hid (B2.out.trans (hb6.mono B2.out.size))
  clear hr6 hb6 B2
  go_wp2_with fail
  refine (G.out _ _ _ HR6.out).mono ?_
  rintro e w7 ⟨nb, rfl, hnb, c0, c1, c2, hb7⟩
  have B7 := Lib.hid (B6.out.trans (hb7.mono B6.out.size))
  clear hb7 B6
  go_wp2_with fail
  refine (Z.out _).mono ?_
  rintro e w8 ⟨rfl, rfl⟩
  go_wp2_with fail
  refine (NY.out _ _).mono ?_
  rintro e w9 ⟨rfl, rfl⟩
  go_wp2
  go_region_held3 (fun w' => w'.cell? ⟨nb, 0, none⟩ = some (.int .u64 (n0 : Int)) ∧ w'.cell? ⟨nb, 1, none⟩ = some (.int .u64 (n1 : Int)) ∧ w'.cell? ⟨nb, 2, none⟩ = some (.int .u64 (n2 : Int)))
    (first | go_keep | (refine ⟨?_, ?_, ?_⟩ <;> assumption))
    (fail)
  obtain ⟨W3, hW3⟩ : ∃ W3, (w7.alloc (.cells #[.int .i64 (n0 : Int), .int .i64 (n1 : Int), .int .i64 (n2 : Int)] 23)).drew = W3 := ⟨_, rfl⟩
  have hb3 : Below w7.heap.size w7 W3 := by rw [← hW3]; exact ((Below.refl _ _).alloc (Nat.le_refl _) _).drew
  have bx3 : Ux W3 w7.heap.size n0 n1 n2 := by rw [← hW3]; exact ux_row (heap_alloc_new w7 _)
  rw [hW3]
  have B3 := Lib.hid (B7.out.trans (hb3.mono B7.out.size))
  have BX3 := Lib.hid bx3
  clear hW3 c0 c1 c2 hnb hb3 B7
  obtain ⟨lt3, b0, b1, b2⟩ := bx3
  have hsz : w.heap.size < W3.heap.size := Nat.lt_of_lt_of_le LT.out B3.out.size
  go_wp2_with fail
  refine (R.out _).mono ?_
  rintro e w10 ⟨rfl, hb10⟩
  have B10 := Lib.hid (B3.out.trans (hb10.mono B3.out.size))
  clear hb10 b0 b1 b2
  go_wp2_with fail
  refine (NN.out _ _).mono ?_
  rintro e w11 ⟨rfl, rfl⟩
  go_wp2
  exact ⟨rfl, rfl, HB.out.trans (B10.out.mono HB.out.size)⟩

set_option maxHeartbeats 800000 in
theorem uread_good (s : List UInt8) (q r : List UInt8) (n0 n1 n2 : Nat) (w : World) (h : s.length = 64) (hg : Cm.good s = true) (ht : (s.take 60).take 4 = Um.ts) (hq : q = (s.take 60).drop 4) (k0 : n0 < 4294967296) (k1 : n1 < 4294967296) (k2 : n2 < 4294967296)
    (G : Hid (∀ a cap w1, Row w1 w1.heap.size a 3 (szs Um.zs) → Calls Try.prog 33 #[.string (Om.B q), .slice a 3 cap] w1 (GetU r n0 n1 n2 w1)))
    (Z : Hid (∀ w1, Calls Try.prog 34 #[.string (Om.B r)] w1 fun e w' => e = .returned (.bool true) ∧ w1 = w'))
    (R : Hid (∀ w1, Calls Try.prog 9 #[Uv n0 n1 n2] w1 fun e w' => e = .returned (.bool true) ∧ Below w1.heap.size w1 w')) :
    Calls Try.prog 20 #[.string (Om.B s)] w fun e w' => e = .returned (Uv n0 n1 n2) ∧ Below w.heap.size w w' := by
  have e0 : IntKind.i64.wrap (n0 : Int) = (n0 : Int) := IntWalk.i64_in _ (by omega)
  have e1 : IntKind.i64.wrap (n1 : Int) = (n1 : Int) := IntWalk.i64_in _ (by omega)
  have e2 : IntKind.i64.wrap (n2 : Int) = (n2 : Int) := IntWalk.i64_in _ (by omega)
  have heq : (((Om.B s).size : Int) == 64) = true := by rw [beq_iff_eq, Om.B_size]; omega
  have hc := fun w1 => open_any s w1 (by omega) (by omega)
  have hbl : (s.take 60).length = 60 := by rw [List.length_take]; omega
  rw [hg, h] at hc
  obtain ⟨b, hb⟩ : ∃ b, b = s.take 60 := ⟨_, rfl⟩
  have hc' : ∀ w1, Calls Try.prog 31 #[.string (Om.B s)] w1 fun e w' => e = .returned (.tuple #[.string (Om.B b), .int .i64 0]) ∧ Below w1.heap.size w1 w' := fun w1 => by
    rw [hb]
    exact (hc w1).mono fun e w' h => h
  rw [← hb] at ht hbl
  have C := Lib.hid hc'
  have M := Lib.hid (fun w1 => cut_yes b Um.ts w1 (by rw [hbl]; decide) ht)
  have hts : Om.B Um.ts = ⟨#[79, 65, 75, 49]⟩ := rfl
  rw [hts, show b.drop Um.ts.length = b.drop 4 from rfl] at M
  have hq' : b.drop 4 = q := by rw [hq, hb]
  rw [hq'] at M
  have SZ := Lib.hid usizes_at
  unfold GetU at G
  obtain ⟨W0, hW0⟩ : ∃ W0, w.alloc (.cells #[.int .i64 0, .int .i64 0, .int .i64 0] 23) = W0 := ⟨_, rfl⟩
  obtain ⟨hB, h0, lt⟩ := uresult_made w W0 hW0
  have HB := Lib.hid hB
  have H0 := Lib.hid h0
  have LT := Lib.hid lt
  have NY := Lib.hid need_yes
  have NN := Lib.hid need_no
  unfold Uv at R ⊢
  clear h hB h0 lt hg hc hc' ht hb hts hbl hq hq' k0 k1 k2
  go_enter Try.func20, Try.ntmps20
  go_wp2_with fail
  clear hW0
  refine (NY.out _ _).mono ?_
  rintro e w1 ⟨rfl, rfl⟩
  go_wp2_with fail
  refine (C.out _).mono ?_
  rintro e w2 ⟨rfl, hb2⟩
  have B2 := Lib.hid hb2
  clear hb2
  go_wp2_with fail
  refine (NY.out _ _).mono ?_
  rintro e w3 ⟨rfl, rfl⟩
  go_wp2_with fail
  refine (M.out _).mono ?_
  rintro e w4 ⟨rfl, rfl⟩
  go_wp2_with fail
  refine (NY.out _ _).mono ?_
  rintro e w5 ⟨rfl, rfl⟩
  go_wp2_with fail
  refine (SZ.out _).mono ?_
  rintro e w6 ⟨ks, rfl, hr6, hb6⟩
  have HR6 := Lib.hid hr6
  have B6 := Lib.hid (B2.out.trans (hb6.mono B2.out.size))
  clear hr6 hb6 B2
  go_wp2_with fail
  refine (G.out _ _ _ HR6.out).mono ?_
  rintro e w7 ⟨nb, rfl, hnb, c0, c1, c2, hb7⟩
  have B7 := Lib.hid (B6.out.trans (hb7.mono B6.out.size))
  clear hb7 B6
  go_wp2_with fail
  refine (Z.out _).mono ?_
  rintro e w8 ⟨rfl, rfl⟩
  go_wp2_with fail
  refine (NY.out _ _).mono ?_
  rintro e w9 ⟨rfl, rfl⟩
  go_wp2
  go_region_held3 (fun w' => w'.cell? ⟨nb, 0, none⟩ = some (.int .u64 (n0 : Int)) ∧ w'.cell? ⟨nb, 1, none⟩ = some (.int .u64 (n1 : Int)) ∧ w'.cell? ⟨nb, 2, none⟩ = some (.int .u64 (n2 : Int)))
    (first | go_keep | (refine ⟨?_, ?_, ?_⟩ <;> assumption))
    (fail)
  obtain ⟨W3, hW3⟩ : ∃ W3, (w7.alloc (.cells #[.int .i64 (n0 : Int), .int .i64 (n1 : Int), .int .i64 (n2 : Int)] 23)).drew = W3 := ⟨_, rfl⟩
  have hb3 : Below w7.heap.size w7 W3 := by rw [← hW3]; exact ((Below.refl _ _).alloc (Nat.le_refl _) _).drew
  have bx3 : Ux W3 w7.heap.size n0 n1 n2 := by rw [← hW3]; exact ux_row (heap_alloc_new w7 _)
  rw [hW3]
  have B3 := Lib.hid (B7.out.trans (hb3.mono B7.out.size))
  have BX3 := Lib.hid bx3
  clear hW3 c0 c1 c2 hnb hb3 B7
  obtain ⟨lt3, b0, b1, b2⟩ := bx3
  have hsz : w.heap.size < W3.heap.size := Nat.lt_of_lt_of_le LT.out B3.out.size
  go_wp2_with fail
  refine (R.out _).mono ?_
  rintro e w10 ⟨rfl, hb10⟩
  have B10 := Lib.hid (B3.out.trans (hb10.mono B3.out.size))
  have h10 := (hb10.block _ hsz).trans ((B3.out.block _ LT.out).trans H0.out)
  have H10 := Lib.hid h10
  have HB10 := Lib.hid (HB.out.trans (B10.out.mono HB.out.size))
  obtain ⟨z0, z1, z2, zf⟩ := uzero_cells h10
  clear b0 b1 b2
  obtain ⟨_, b0, b1, b2⟩ := BX3.out.next hb10
  clear hb10 h10
  go_wp2_with fail
  refine (NY.out _ _).mono ?_
  rintro e w11 ⟨rfl, rfl⟩
  go_wp2
  refine bodyPost_ret (results_cell_row (p := 2) (ty := 23) rfl _ _ w.heap.size 23 _ (0, 0) _ rfl (three_set H10.out _ _ _) Try.underlying23 rfl usuper_info) rfl ⟨rfl, ?_⟩
  exact below_three HB10.out (Nat.le_refl _) _ _ _

theorem unums_small (q : List UInt8) (i k : Nat) (h : (Um.zs.getD i 0).toNat ≤ k) : Om.at_ q Um.zs i < 256 ^ k := by
  unfold Om.at_
  have h1 := Om.num_lt ((q.drop (Om.off Um.zs i)).take (Um.zs.getD i 0).toNat)
  have h2 : 256 ^ ((q.drop (Om.off Um.zs i)).take (Um.zs.getD i 0).toNat).length ≤ 256 ^ k := Nat.pow_le_pow_right (by omega) (by rw [List.length_take]; exact Nat.le_trans (Nat.min_le_left _ _) h)
  omega
/-- What read gives of any bytes. -/
def URead (s : List UInt8) (w : World) (e : Ending) (w' : World) : Prop :=
  ((Um.decE s = 0 ∧ e = .returned (Uv (Um.decA s) (Um.decN s) (Um.decG s))) ∨ (Um.decE s ≠ 0 ∧ e = wrongE (Um.decE s))) ∧ Below w.heap.size w w'
theorem uread_wrong {s : List UInt8} {w : World} {x : Int} (h : Um.decE s = x) (hx : x ≠ 0) (H : Calls Try.prog 20 #[.string (Om.B s)] w fun e w' => e = wrongE x ∧ Below w.heap.size w w') :
    Calls Try.prog 20 #[.string (Om.B s)] w (URead s w) :=
  H.mono fun e w' ⟨he, hb⟩ => ⟨.inr ⟨by rw [h]; exact hx, by rw [h]; exact he⟩, hb⟩
theorem uread_any (s : List UInt8) (w : World) : Calls Try.prog 20 #[.string (Om.B s)] w (URead s w) := by
  by_cases h : s.length = 64
  · cases hg : Cm.good s with
    | false => exact uread_wrong (Um.dec_off s 31 (Sc.op_sum h hg) (by decide)).1 (by decide) (uread_sum s w h hg)
    | true =>
      by_cases ht : (s.take 60).take 4 = Um.ts
      · have hql : ((s.take 60).drop 4).length = 56 := by rw [List.length_drop, List.length_take]; omega
        obtain ⟨q, hq⟩ : ∃ q, q = (s.take 60).drop 4 := ⟨_, rfl⟩
        rw [← hq] at hql
        have G : Hid (∀ a cap w1, Row w1 w1.heap.size a 3 (szs Um.zs) → Calls Try.prog 33 #[.string (Om.B q), .slice a 3 cap] w1 (GetU (q.drop 12) (Om.at_ q Um.zs 0) (Om.at_ q Um.zs 1) (Om.at_ q Um.zs 2) w1)) := fun a cap w1 hr => getu q (by omega) a cap w1 hr
        have Zc := Lib.hid (fun w1 => zero_any (q.drop 12) w1 (by rw [List.length_drop]; omega))
        have e0 : Sc.numAt Um.zs s 0 = Om.at_ q Um.zs 0 := by rw [hq]; rfl
        have e1 : Sc.numAt Um.zs s 1 = Om.at_ q Um.zs 1 := by rw [hq]; rfl
        have e2 : Sc.numAt Um.zs s 2 = Om.at_ q Um.zs 2 := by rw [hq]; rfl
        cases hz : allZero (q.drop 12) with
        | false =>
          rw [hz] at Zc
          exact uread_wrong (Um.dec_off s 32 (Sc.op_form h hg ht (by rw [← hq]; exact hz)) (by decide)).1 (by decide) (uread_rest s q _ _ _ _ w h hg ht hq G Zc)
        | true =>
          rw [hz] at Zc
          have hop : Sc.opE Um.ts Um.zs s = 0 := Sc.op_ok h hg ht (by rw [← hq]; exact hz)
          have R := Lib.hid (fun w1 => uright_any (Om.at_ q Um.zs 0) (Om.at_ q Um.zs 1) (Om.at_ q Um.zs 2) w1)
          have k0 : Om.at_ q Um.zs 0 < 4294967296 := unums_small q 0 4 (by decide)
          have k1 : Om.at_ q Um.zs 1 < 4294967296 := unums_small q 1 4 (by decide)
          have k2 : Om.at_ q Um.zs 2 < 4294967296 := unums_small q 2 4 (by decide)
          cases hok : Um.okN (Om.at_ q Um.zs 0) (Om.at_ q Um.zs 1) (Om.at_ q Um.zs 2) with
          | false =>
            have hok' : Um.okU (Om.at_ q Um.zs 0) (Om.at_ q Um.zs 1) (Om.at_ q Um.zs 2) = false := hok
            rw [hok'] at R
            exact uread_wrong (Um.dec_form s hop (by rw [e0, e1, e2]; exact hok)).1 (by decide) (uread_form s q _ _ _ _ w h hg ht hq k0 k1 k2 G Zc R)
          | true =>
            have hok' : Um.okU (Om.at_ q Um.zs 0) (Om.at_ q Um.zs 1) (Om.at_ q Um.zs 2) = true := hok
            rw [hok'] at R
            obtain ⟨d0, d1, d2, d3⟩ := Um.dec_ok s hop (by rw [e0, e1, e2]; exact hok)
            refine (uread_good s q _ _ _ _ w h hg ht hq k0 k1 k2 G Zc R).mono ?_
            rintro e w' ⟨he, hb⟩
            exact ⟨.inl ⟨d0, by rw [he, d1, d2, d3, e0, e1, e2]⟩, hb⟩
      · exact uread_wrong (Um.dec_off s 22 (Sc.op_magic h hg ht) (by decide)).1 (by decide) (uread_magic s w h hg ht)
  · exact uread_wrong (Um.dec_off s 21 (Sc.op_cut h) (by decide)).1 (by decide) (uread_cut s w h)
end Go.Proofs.Ytncbimgbjkdocaa
