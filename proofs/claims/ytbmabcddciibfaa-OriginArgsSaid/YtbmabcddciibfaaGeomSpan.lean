/- Contract of Span. -/
import Derived.Test.YtbmabcddciibfaaGeomCalls
import Derived.Laws.ResultCell
namespace Go.Proofs.Ytbmabcddciibfaa
namespace Geo
open Go.RowKit
set_option linter.unusedVariables false
/-- Of a call whose number of chunks is known. -/
theorem chunks_any (o c : Int) (w : World) : Calls Try.prog 38 #[.agg #[.int .i64 o, .int .i64 c]] w fun e w' => e = .returned (.int .i64 (if Em.rightB o c = true then (Em.parts o.toNat c.toNat : Nat) else 0)) ∧ Below w.heap.size w w' := by
  cases hr : Em.rightB o c with
  | false => rw [if_neg (by decide)]; exact chunks_no o c w hr
  | true =>
    obtain ⟨a, b, rfl, rfl, _⟩ := Em.right_nat hr
    rw [if_pos rfl, Int.toNat_natCast, Int.toNat_natCast]
    exact chunks_ok a b w hr
/-- The number of chunks. -/
def many (o c : Int) : Int := if Em.rightB o c = true then (Em.parts o.toNat c.toNat : Nat) else 0
theorem many_le (o c : Int) : 0 ≤ many o c ∧ many o c ≤ 1048576 := by
  unfold many
  by_cases h : Em.rightB o c = true
  · rw [if_pos h]
    obtain ⟨a, b, rfl, rfl, h1, h2, _⟩ := Em.right_nat h
    have := Em.parts_le a b
    rw [Int.toNat_natCast, Int.toNat_natCast]
    omega
  · rw [if_neg h]; omega
theorem many_nat {o c : Nat} (h : Em.rightB o c = true) : many o c = (Em.parts o c : Nat) := by unfold many; rw [if_pos h]; rfl

/-- A result that lies in a block of two cells, and one beside it. -/
theorem results_two {fn : Func} {p u : Tmp} (h : fn.results = #[.cell p 48, .tmp u]) (tmps : Array Value) (w : World) (g : Nat) (x y v : Value)
    (hp : tmps.getD p undef = .pointer (some ⟨g, 0, none⟩)) (hu : tmps.getD u undef = v) (hg : w.heap[g]? = some (.cells #[x, y] 48 (0, 0))) :
    (results fn tmps).run Try.prog w = .ok (.tuple #[.agg #[x, y], v]) w := by
  have hi : (Try.prog.info? 48).map (·.size) = some (#[x, y] : Array Value).size := by show _ = some 2; kernel_rfl
  rw [results_cell_tmp h, hp, hu]
  simp [asAddr, run_loadVar_row w g 48 48 #[x, y] (0, 0) _ hg Try.underlying48 rfl hi, Result.andThen]
theorem two_set {w : World} {g : Nat} {a b : Value} {t : TypeId} (h : w.heap[g]? = some (.cells #[a, b] t (0, 0))) (x y : Value) : ((w.setCell ⟨g, 0, none⟩ x).setCell ⟨g, 1, none⟩ y).heap[g]? = some (.cells #[x, y] t (0, 0)) := by
  rw [heap_setCell_same _ _ _ _ _ _ (heap_setCell_same _ _ _ _ _ _ h)]
  rfl
theorem span_start (w : World) (o c : Int) (W0 : World) (h : (w.alloc (.cells #[.int .i64 o, .int .i64 c] 51)).alloc (.cells #[.int .i64 0, .int .i64 0] 48) = W0) :
    Below w.heap.size w W0 ∧ W0.heap.size = w.heap.size + 2 ∧ W0.cell? ⟨w.heap.size, 0, none⟩ = some (.int .i64 o) ∧ W0.cell? ⟨w.heap.size, 1, none⟩ = some (.int .i64 c) ∧
    W0.heap[w.heap.size + 1]? = some (.cells #[.int .i64 0, .int .i64 0] 48 (0, 0)) := by
  subst h
  have hg0 := cell_alloc2 w o c
  have hk : Below (w.heap.size + 1) (w.alloc (.cells #[.int .i64 o, .int .i64 c] 51)) ((w.alloc (.cells #[.int .i64 o, .int .i64 c] 51)).alloc (.cells #[.int .i64 0, .int .i64 0] 48)) := (Below.refl _ _).alloc (by simp) _
  refine ⟨((Below.refl _ w).alloc (Nat.le_refl _) _).alloc (by simp) _, by simp, (hk.cell (p := ⟨w.heap.size, 0, none⟩) (by simp)).trans hg0.1, (hk.cell (p := ⟨w.heap.size, 1, none⟩) (by simp)).trans hg0.2, ?_⟩
  have := heap_alloc_new (w.alloc (.cells #[.int .i64 o, .int .i64 c] 51)) (.cells #[.int .i64 0, .int .i64 0] 48)
  simpa using this

theorem span_no (o c k : Int) (w : World) (hr : refuse o c k 0 (many o c - 1) ≠ 0) : Calls Try.prog 25 #[.agg #[.int .i64 o, .int .i64 c], .int .i64 k] w fun e w' => e = .returned (.tuple #[.agg #[.int .i64 0, .int .i64 0], .int .i64 (refuse o c k 0 (many o c - 1))]) ∧ Below w.heap.size w w' := by
  have C := Lib.hid (fun w1 => refuse_any o c k 0 (many o c - 1) w1)
  have hm := many_le o c
  obtain ⟨m, hme⟩ : ∃ m, m = many o c := ⟨_, rfl⟩
  have D : Hid (∀ w1 : World, Calls Try.prog 38 #[.agg #[.int .i64 o, .int .i64 c]] w1 fun e w' => e = .returned (.int .i64 m) ∧ Below w1.heap.size w1 w') := fun w1 => by rw [hme]; exact chunks_any o c w1
  rw [← hme] at hm hr C ⊢
  obtain ⟨e, he⟩ : ∃ e, e = refuse o c k 0 (m - 1) := ⟨_, rfl⟩
  rw [← he] at hr C ⊢
  have hd : (e != 0) = true := by simpa using hr
  obtain ⟨W0, hW0⟩ : ∃ W0, (w.alloc (.cells #[.int .i64 o, .int .i64 c] 51)).alloc (.cells #[.int .i64 0, .int .i64 0] 48) = W0 := ⟨_, rfl⟩
  obtain ⟨hB, hsz, d0, d1, hz⟩ := span_start w o c W0 hW0
  have HB := Lib.hid hB
  have hz0 : W0.cell? ⟨w.heap.size + 1, 0, none⟩ = some (.int .i64 0) := by rw [cell_of_row _ _ _ _ _ _ hz]; rfl
  have hw0 : w.heap.size < W0.heap.size := by omega
  have hmw : IntKind.i64.wrap (m - 1) = m - 1 := IntWalk.i64_in _ (by omega)
  clear hr he hme hB hz0
  go_enter Try.func25, Try.ntmps25
  go_wp2_with fail
  clear hW0
  go_region_held3 (fun w' => w'.cell? ⟨w.heap.size, 0, none⟩ = some (.int .i64 o) ∧ w'.cell? ⟨w.heap.size, 1, none⟩ = some (.int .i64 c))
    (first | go_keep | (refine ⟨?_, ?_⟩ <;> assumption) | (exact ⟨(BX.out.cell (p := ⟨w.heap.size, 0, none⟩) hw0).trans d0, (BX.out.cell (p := ⟨w.heap.size, 1, none⟩) hw0).trans d1⟩))
    (first | (go_at_call 38; refine (D.out _).mono ?_; rintro e w1 ⟨rfl, hb1⟩; have BX : Hid (Below W0.heap.size W0 w1) := (Below.refl _ _).drew.trans hb1; have B1 := BX; clear hb1) | (go_at_call 37; refine (C.out _).mono ?_; rintro e w2 ⟨rfl, hb2⟩; have BX : Hid (Below W0.heap.size W0 w2) := B1.out.trans (hb2.mono B1.out.size); clear hb2))
  have hz2 := (BX.out.block (w.heap.size + 1) (by omega)).trans hz
  have HB2 := Lib.hid (HB.out.trans (BX.out.mono HB.out.size))
  have HZ := Lib.hid hz2
  have z0 : w2.cell? ⟨w.heap.size + 1, 0, none⟩ = some (.int .i64 0) := by rw [cell_of_row _ _ _ _ _ _ hz2]; rfl
  have z1 : w2.cell? ⟨w.heap.size + 1, 1, none⟩ = some (.int .i64 0) := by rw [cell_of_row _ _ _ _ _ _ hz2]; rfl
  have zf := fun j => frozen_of_row (j := j) _ _ _ _ hz2
  clear hz hz2
  go_wp2_with fail
  refine bodyPost_ret (results_two (p := 4) (u := 5) rfl _ _ (w.heap.size + 1) _ _ _ rfl rfl (two_set HZ.out _ _)) rfl ⟨rfl, ?_⟩
  exact (HB2.out.setCell (p := ⟨w.heap.size + 1, 0, none⟩) (by simp) _).setCell (p := ⟨w.heap.size + 1, 1, none⟩) (by simp) _
theorem span_ok (o c k : Nat) (w : World) (hr : Em.rightB o c = true) (hk : k < Em.parts o c) : Calls Try.prog 25 #[.agg #[.int .i64 (o : Int), .int .i64 (c : Int)], .int .i64 (k : Int)] w fun e w' => e = .returned (.tuple #[.agg #[.int .i64 ((k * c : Nat) : Int), .int .i64 ((min c (o - k * c) : Nat) : Int)], .int .i64 0]) ∧ Below w.heap.size w w' := by
  have hm := many_le o c
  have hmn := many_nat hr
  have C := Lib.hid (fun w1 => refuse_any o c k 0 (many o c - 1) w1)
  rw [refuse_ok hr (by omega) (by omega)] at C
  obtain ⟨h1, h2, h3, h4⟩ := (Em.right_iff _ _).1 hr
  have hs := (Em.parts_lt (by omega : 0 < c)).1 hk
  obtain ⟨s, hse⟩ : ∃ s, s = k * c := ⟨_, rfl⟩
  have hkc : (k : Int) * (c : Int) = (s : Int) := by rw [hse]; exact (Int.natCast_mul k c).symm
  have hkl : k ≤ 1048576 := by omega
  rw [← hse] at hs ⊢
  obtain ⟨m, hme⟩ : ∃ m, m = many o c := ⟨_, rfl⟩
  have D : Hid (∀ w1 : World, Calls Try.prog 38 #[.agg #[.int .i64 (o : Int), .int .i64 (c : Int)]] w1 fun e w' => e = .returned (.int .i64 m) ∧ Below w1.heap.size w1 w') := fun w1 => by rw [hme]; exact chunks_any o c w1
  rw [← hme] at hm C
  obtain ⟨W0, hW0⟩ : ∃ W0, (w.alloc (.cells #[.int .i64 (o : Int), .int .i64 (c : Int)] 51)).alloc (.cells #[.int .i64 0, .int .i64 0] 48) = W0 := ⟨_, rfl⟩
  obtain ⟨hB, hsz, d0, d1, hz⟩ := span_start w o c W0 hW0
  have HB := Lib.hid hB
  have hw0 : w.heap.size < W0.heap.size := by omega
  have hmw : IntKind.i64.wrap (m - 1) = m - 1 := IntWalk.i64_in _ (by omega)
  clear hr hme hB hmn hse hk
  by_cases hf : c ≤ o - s
  · have e1 : ((min c (o - s) : Nat) : Int) = (c : Int) := by omega
    have E1 := Lib.hid e1
    clear e1
    have hfi : (c : Int) ≤ (o : Int) - (s : Int) := by omega
    go_enter Try.func25, Try.ntmps25
    go_wp2_with fail
    clear hW0
    go_region_held3 (fun w' => w'.cell? ⟨w.heap.size, 0, none⟩ = some (.int .i64 (o : Int)) ∧ w'.cell? ⟨w.heap.size, 1, none⟩ = some (.int .i64 (c : Int)))
      (first | go_keep | (refine ⟨?_, ?_⟩ <;> assumption) | (exact ⟨(BX.out.cell (p := ⟨w.heap.size, 0, none⟩) hw0).trans d0, (BX.out.cell (p := ⟨w.heap.size, 1, none⟩) hw0).trans d1⟩))
      (first | (go_at_call 38; refine (D.out _).mono ?_; rintro e w1 ⟨rfl, hb1⟩; have BX : Hid (Below W0.heap.size W0 w1) := (Below.refl _ _).drew.trans hb1; have B1 := BX; clear hb1) | (go_at_call 37; refine (C.out _).mono ?_; rintro e w2 ⟨rfl, hb2⟩; have BX : Hid (Below W0.heap.size W0 w2) := B1.out.trans (hb2.mono B1.out.size); clear hb2))
    have hz2 := (BX.out.block (w.heap.size + 1) (by omega)).trans hz
    have HB2 := Lib.hid (HB.out.trans (BX.out.mono HB.out.size))
    have HZ := Lib.hid hz2
    have z0 : w2.cell? ⟨w.heap.size + 1, 0, none⟩ = some (.int .i64 0) := by rw [cell_of_row _ _ _ _ _ _ hz2]; rfl
    have z1 : w2.cell? ⟨w.heap.size + 1, 1, none⟩ = some (.int .i64 0) := by rw [cell_of_row _ _ _ _ _ _ hz2]; rfl
    have zf := fun j => frozen_of_row (j := j) _ _ _ _ hz2
    have g0 := (BX.out.cell (p := ⟨w.heap.size, 0, none⟩) hw0).trans d0
    have g1 := (BX.out.cell (p := ⟨w.heap.size, 1, none⟩) hw0).trans d1
    clear hz hz2 d0 d1 hmw
    go_wp2_with fail
    refine bodyPost_ret (results_two (p := 4) (u := 5) rfl _ _ (w.heap.size + 1) _ _ _ rfl rfl (two_set HZ.out _ _)) rfl ⟨by rw [E1.out]; rfl, ?_⟩
    exact (HB2.out.setCell (p := ⟨w.heap.size + 1, 0, none⟩) (by simp) _).setCell (p := ⟨w.heap.size + 1, 1, none⟩) (by simp) _
  · have e1 : ((min c (o - s) : Nat) : Int) = (o : Int) - (s : Int) := by omega
    have E1 := Lib.hid e1
    clear e1
    have hfi : (o : Int) - (s : Int) < (c : Int) := by omega
    go_enter Try.func25, Try.ntmps25
    go_wp2_with fail
    clear hW0
    go_region_held3 (fun w' => w'.cell? ⟨w.heap.size, 0, none⟩ = some (.int .i64 (o : Int)) ∧ w'.cell? ⟨w.heap.size, 1, none⟩ = some (.int .i64 (c : Int)))
      (first | go_keep | (refine ⟨?_, ?_⟩ <;> assumption) | (exact ⟨(BX.out.cell (p := ⟨w.heap.size, 0, none⟩) hw0).trans d0, (BX.out.cell (p := ⟨w.heap.size, 1, none⟩) hw0).trans d1⟩))
      (first | (go_at_call 38; refine (D.out _).mono ?_; rintro e w1 ⟨rfl, hb1⟩; have BX : Hid (Below W0.heap.size W0 w1) := (Below.refl _ _).drew.trans hb1; have B1 := BX; clear hb1) | (go_at_call 37; refine (C.out _).mono ?_; rintro e w2 ⟨rfl, hb2⟩; have BX : Hid (Below W0.heap.size W0 w2) := B1.out.trans (hb2.mono B1.out.size); clear hb2))
    have hz2 := (BX.out.block (w.heap.size + 1) (by omega)).trans hz
    have HB2 := Lib.hid (HB.out.trans (BX.out.mono HB.out.size))
    have HZ := Lib.hid hz2
    have z0 : w2.cell? ⟨w.heap.size + 1, 0, none⟩ = some (.int .i64 0) := by rw [cell_of_row _ _ _ _ _ _ hz2]; rfl
    have z1 : w2.cell? ⟨w.heap.size + 1, 1, none⟩ = some (.int .i64 0) := by rw [cell_of_row _ _ _ _ _ _ hz2]; rfl
    have zf := fun j => frozen_of_row (j := j) _ _ _ _ hz2
    have g0 := (BX.out.cell (p := ⟨w.heap.size, 0, none⟩) hw0).trans d0
    have g1 := (BX.out.cell (p := ⟨w.heap.size, 1, none⟩) hw0).trans d1
    clear hz hz2 d0 d1 hmw
    go_wp2_with fail
    refine bodyPost_ret (results_two (p := 4) (u := 5) rfl _ _ (w.heap.size + 1) _ _ _ rfl rfl (two_set HZ.out _ _)) rfl ⟨by rw [E1.out]; rfl, ?_⟩
    exact (HB2.out.setCell (p := ⟨w.heap.size + 1, 0, none⟩) (by simp) _).setCell (p := ⟨w.heap.size + 1, 1, none⟩) (by simp) _
/-- What a span tells. -/
def spanS (o c k : Int) : Int × Int := if refuse o c k 0 (many o c - 1) = 0 then (k * c, min c (o - k * c)) else (0, 0)
theorem span_any (o c k : Int) (w : World) : Calls Try.prog 25 #[.agg #[.int .i64 o, .int .i64 c], .int .i64 k] w fun e w' => e = .returned (.tuple #[.agg #[.int .i64 (spanS o c k).1, .int .i64 (spanS o c k).2], .int .i64 (refuse o c k 0 (many o c - 1))]) ∧ Below w.heap.size w w' := by
  by_cases h : refuse o c k 0 (many o c - 1) = 0
  · have hb : Em.rightB o c = true ∧ 0 ≤ k ∧ k ≤ many o c - 1 := by
      unfold refuse at h
      split at h
      · rename_i hr
        split at h
        · cases h
        · exact ⟨hr, by omega, by omega⟩
      · cases h
    obtain ⟨hr, h1, h2⟩ := hb
    have e : spanS o c k = (k * c, min c (o - k * c)) := by unfold spanS; rw [if_pos h]
    rw [e, h]
    obtain ⟨a, b, rfl, rfl, g1, g2, g3, g4⟩ := Em.right_nat hr
    obtain ⟨n, rfl⟩ : ∃ n : Nat, k = (n : Int) := ⟨k.toNat, by omega⟩
    rw [many_nat hr] at h2
    have hs := span_ok a b n w hr (by omega)
    have hlt := (Em.parts_lt (by omega : 0 < b)).1 (show n < Em.parts a b by omega)
    have e1 : ((n * b : Nat) : Int) = (n : Int) * (b : Int) := Int.natCast_mul n b
    have e2 : ((min b (a - n * b) : Nat) : Int) = min (b : Int) ((a : Int) - (n : Int) * (b : Int)) := by rw [← e1]; omega
    rw [e1, e2] at hs
    exact hs
  · have e : spanS o c k = (0, 0) := by unfold spanS; rw [if_neg h]
    rw [e]
    exact span_no o c k w h
end Geo
end Go.Proofs.Ytbmabcddciibfaa