/- The contract of super's Decode: what stops the reading is recovered, and told. -/
import Derived.Test.YtncbimgbjkdocaaSuperRead
import Derived.Defers
import Derived.Recover
import Derived.Laws.Pointers
namespace Go.Proofs.Ytncbimgbjkdocaa
open Go.RowKit
set_option maxRecDepth 100000
set_option linter.unusedVariables false

theorem slots_put (P a b c d e f g : Value) : #[P] ++ (((((((Array.replicate 10 undef).setIfInBounds 3 d).setIfInBounds 4 e).setIfInBounds 2 c).setIfInBounds 5 f).setIfInBounds 6 g).setIfInBounds 0 a).setIfInBounds 1 b = #[P, a, b, c, d, e, f, g, undef, undef, undef] := by
  kernel_rfl
set_option maxHeartbeats 1000000 in
/-- What is deferred, of a reading that was stopped. -/
theorem caught_wrong (p : Addr) (x y : Int) (older : List PanicEntry) (w : World) (hc : w.cell? p = some (.int .i64 y)) (hz : w.frozen? p = false) (hp : p.block < w.heap.size) :
    CallsD Try.prog 19 #[.pointer (some p)] (.panicking ({ v := .iface 45 (.agg #[.int .i64 x]), recovered := false } :: older)) w fun e u' w' =>
      e = .returned (.tuple #[]) ∧ u' = (.panicking ({ v := .iface 45 (.agg #[.int .i64 x]), recovered := true } :: older)) ∧ w' = (w.alloc (.cells #[.int .i64 x] 45)).setCell p (.int .i64 x) := by
  have h1 := fun w => tw_yes x w
  have hc1 : (w.alloc (.cells #[.int .i64 x] 45)).cell? p = some (.int .i64 y) := ((((Below.refl _ w).alloc (Nat.le_refl _) _).cell hp)).trans hc
  have hz1 : (w.alloc (.cells #[.int .i64 x] 45)).frozen? p = false := ((((Below.refl _ w).alloc (Nat.le_refl _) _).frozen hp)).trans hz
  refine callsD_of_wpS Try.func19 rfl fun c₀ cs hu => ?_
  apply wpS_seq
  apply wpS_region
  simp [wpOpsS, go_sem, recoverD, hu, Try.ntmps19, Exit.thenS, h1, Oper.upon, Result.andThen]
  rw [slots_put]
  refine wpS_of_wp ?_
  go_wp2
  simp [bodyPostS, results, Try.results19]
set_option maxHeartbeats 1000000 in
theorem caught_none (p : Addr) (w : World) :
    CallsD Try.prog 19 #[.pointer (some p)] .returning w fun e u' w' =>
      e = .returned (.tuple #[]) ∧ u' = .returning ∧ w' = w.alloc (.cells #[.int .i64 0] 45) := by
  have h1 := fun w => tw_nil w
  refine callsD_of_wpS Try.func19 rfl fun c₀ cs hu => ?_
  apply wpS_seq
  apply wpS_region
  simp [wpOpsS, go_sem, recoverD, hu, Try.ntmps19, Exit.thenS, h1, Oper.upon, Result.andThen]
  rw [slots_put]
  refine wpS_of_wp ?_
  go_wp2
  cases c₀
  simp_all [bodyPostS, results, Try.results19]
/-- The superblock that is told of any bytes. -/
def udecV (s : List UInt8) : Value := Uv (Um.decA s) (Um.decN s) (Um.decG s)
/-- What is told of any bytes. -/
def UDec (s : List UInt8) (w : World) (e : Ending) (w' : World) : Prop := e = .returned (.tuple #[udecV s, .int .i64 (Um.decE s)]) ∧ Below w.heap.size w w'

theorem results_super_err {fn : Func} {p u : Tmp} (h : fn.results = #[.cell p 23, .cell u 24]) (tmps : Array Value) (w : World) (g k : Nat) (x0 x1 x2 v : Value)
    (hp : tmps.getD p undef = .pointer (some ⟨g, 0, none⟩)) (hu : tmps.getD u undef = .pointer (some ⟨k, 0, none⟩)) (hg : w.heap[g]? = some (.cells #[x0, x1, x2] 23 (0, 0))) (hk : w.cell? ⟨k, 0, none⟩ = some v) :
    (results fn tmps).run Try.prog w = .ok (.tuple #[.agg #[x0, x1, x2], v]) w := by
  have hp' : tmps[p]?.getD undef = .pointer (some ⟨g, 0, none⟩) := by simpa using hp
  have hu' : tmps[u]?.getD undef = .pointer (some ⟨k, 0, none⟩) := by simpa using hu
  have c0 : w.cell? ⟨g, 0, none⟩ = some x0 := by rw [cell_of_row _ _ _ _ _ _ hg]; rfl
  have c1 : w.cell? ⟨g, 1, none⟩ = some x1 := by rw [cell_of_row _ _ _ _ _ _ hg]; rfl
  have c2 : w.cell? ⟨g, 2, none⟩ = some x2 := by rw [cell_of_row _ _ _ _ _ _ hg]; rfl
  simp [results, h, hp', hu', asAddr, Result.andThen, go_sem, c0, c1, c2, hk]
/-- The results' blocks, made first. -/
theorem uresults_made (w W0 : World) (h : (w.alloc (.cells #[.int .i64 0, .int .i64 0, .int .i64 0] 23)).alloc (.cells #[.int .i64 0] 24) = W0) :
    Below w.heap.size w W0 ∧ W0.heap[w.heap.size]? = some (.cells #[.int .i64 0, .int .i64 0, .int .i64 0] 23 (0, 0)) ∧ W0.heap[w.heap.size + 1]? = some (.cells #[.int .i64 0] 24 (0, 0)) ∧ W0.heap.size = w.heap.size + 2 := by
  subst h
  have h1 := heap_alloc_new w (.cells #[.int .i64 0, .int .i64 0, .int .i64 0] 23)
  have h2 := heap_alloc_new (w.alloc (.cells #[.int .i64 0, .int .i64 0, .int .i64 0] 23)) (.cells #[.int .i64 0] 24)
  have hs : (w.alloc (.cells #[.int .i64 0, .int .i64 0, .int .i64 0] 23)).heap.size = w.heap.size + 1 := by simp
  rw [hs] at h2
  have hb : Below (w.heap.size + 1) (w.alloc (.cells #[.int .i64 0, .int .i64 0, .int .i64 0] 23)) ((w.alloc (.cells #[.int .i64 0, .int .i64 0, .int .i64 0] 23)).alloc (.cells #[.int .i64 0] 24)) := (Below.refl _ _).alloc (by simp) _
  exact ⟨((Below.refl _ w).alloc (Nat.le_refl _) _).alloc (by simp) _, (hb.block _ (by omega)).trans h1, h2, by simp⟩

theorem udec_wrong (s : List UInt8) (w : World) (x : Int) (hx : Um.decE s = x) (h0 : x ≠ 0) : Calls Try.prog 11 #[.string (Om.B s)] w (UDec s w) := by
  have hmf : ∀ (fn : Fn) (first cap : Array Value) (w : World), (Instr.makeFunc fn first cap).run Try.prog w = .ok (.func fn first cap) w := fun _ _ _ _ => rfl
  have hc : ∀ w1, Calls Try.prog 20 #[.string (Om.B s)] w1 fun e w' => e = wrongE x ∧ Below w1.heap.size w1 w' := fun w1 =>
    (uread_any s w1).mono fun e w' ⟨h1, h2⟩ => ⟨by rcases h1 with h1 | h1; exact absurd (hx.symm.trans h1.1) h0; rw [h1.2, hx], h2⟩
  have HC := Lib.hid hc
  unfold wrongE at HC
  have HD := Lib.hid (Um.dec_none s (by rw [hx]; exact h0))
  have HX := Lib.hid hx
  obtain ⟨W0, hW0⟩ : ∃ W0, (w.alloc (.cells #[.int .i64 0, .int .i64 0, .int .i64 0] 23)).alloc (.cells #[.int .i64 0] 24) = W0 := ⟨_, rfl⟩
  obtain ⟨hB, hs0, hs1, hsz⟩ := uresults_made w W0 hW0
  have HB := Lib.hid hB
  have S0 := Lib.hid hs0
  have S1 := Lib.hid hs1
  have SZ := Lib.hid hsz
  clear hc hx h0 hB hs0 hs1 hsz
  go_enter_defers Try.func11, Try.ntmps11
  go_wp2_with fail
  clear hW0
  refine (HC.out _).mono ?_
  rintro e w1 ⟨rfl, hb⟩
  have s0 := (hb.block w.heap.size (by rw [SZ.out]; omega)).trans S0.out
  have s1 := (hb.block (w.heap.size + 1) (by rw [SZ.out]; omega)).trans S1.out
  have hB1 := HB.out.trans (hb.mono HB.out.size)
  have lt1 := (Array.getElem?_eq_some_iff.1 s1).1
  have c1 : w1.cell? ⟨w.heap.size + 1, 0, none⟩ = some (.int .i64 0) := by rw [cell_of_row _ _ _ _ _ _ s1]; rfl
  have f1 : w1.frozen? ⟨w.heap.size + 1, 0, none⟩ = false := frozen_of_row (j := 0) _ _ _ _ s1
  clear hb
  go_wp2
  refine leaves_cons (f := 19) (args := #[.pointer (some ⟨w.heap.size + 1, 0, none⟩)]) (by simp) (by simp [go_sem]) ?_
  refine (caught_wrong ⟨w.heap.size + 1, 0, none⟩ x 0 [] _ c1 f1 lt1).mono ?_
  rintro e u' w'' ⟨rfl, rfl, rfl⟩
  have hb2 : Below (w.heap.size + 2) w1 (w1.alloc (.cells #[.int .i64 x] 45)) := (Below.refl _ _).alloc (by omega) _
  have t0 := (heap_setCell_other _ ⟨w.heap.size + 1, 0, none⟩ w.heap.size (.int .i64 x) (by show w.heap.size ≠ w.heap.size + 1; omega)).trans ((hb2.block w.heap.size (by omega)).trans s0)
  have t1 := heap_setCell_same _ (w.heap.size + 1) 0 _ _ (.int .i64 x) ((hb2.block (w.heap.size + 1) (by omega)).trans s1)
  have k1 : ((w1.alloc (.cells #[.int .i64 x] 45)).setCell ⟨w.heap.size + 1, 0, none⟩ (.int .i64 x)).cell? ⟨w.heap.size + 1, 0, none⟩ = some (.int .i64 x) := by rw [cell_of_row _ _ _ _ _ _ t1]; rfl
  refine ⟨_, results_super_err (p := 2) (u := 3) rfl _ _ w.heap.size (w.heap.size + 1) _ _ _ _ rfl rfl t0 k1, ?_, ?_⟩
  · unfold udecV
    rw [HX.out, HD.out.1, HD.out.2.1, HD.out.2.2]
    rfl
  · exact (hB1.trans (hb2.mono (by omega))).setCell (p := ⟨w.heap.size + 1, 0, none⟩) (by show _ ≤ w.heap.size + 1; omega) _
theorem udec_good (s : List UInt8) (w : World) (hx : Um.decE s = 0) : Calls Try.prog 11 #[.string (Om.B s)] w (UDec s w) := by
  have hmf : ∀ (fn : Fn) (first cap : Array Value) (w : World), (Instr.makeFunc fn first cap).run Try.prog w = .ok (.func fn first cap) w := fun _ _ _ _ => rfl
  obtain ⟨a, ha⟩ : ∃ a, a = (Um.decA s : Int) := ⟨_, rfl⟩
  obtain ⟨n, hn⟩ : ∃ n, n = (Um.decN s : Int) := ⟨_, rfl⟩
  obtain ⟨g, hg⟩ : ∃ g, g = (Um.decG s : Int) := ⟨_, rfl⟩
  have hc : ∀ w1, Calls Try.prog 20 #[.string (Om.B s)] w1 fun e w' => e = .returned (Uv a n g) ∧ Below w1.heap.size w1 w' := fun w1 =>
    (uread_any s w1).mono fun e w' ⟨h1, h2⟩ => ⟨by rcases h1 with h1 | h1; rw [h1.2, ha, hn, hg]; exact absurd hx h1.1, h2⟩
  have HC := Lib.hid hc
  have HX := Lib.hid (show udecV s = Uv a n g ∧ Um.decE s = 0 from ⟨by unfold udecV; rw [ha, hn, hg], hx⟩)
  unfold Uv at HC HX
  obtain ⟨W0, hW0⟩ : ∃ W0, (w.alloc (.cells #[.int .i64 0, .int .i64 0, .int .i64 0] 23)).alloc (.cells #[.int .i64 0] 24) = W0 := ⟨_, rfl⟩
  obtain ⟨hB, hs0, hs1, hsz⟩ := uresults_made w W0 hW0
  have HB := Lib.hid hB
  have S0 := Lib.hid hs0
  have S1 := Lib.hid hs1
  have SZ := Lib.hid hsz
  clear hc hx hB hs0 hs1 hsz ha hn hg
  go_enter_defers Try.func11, Try.ntmps11
  go_wp2_with fail
  clear hW0
  refine (HC.out _).mono ?_
  rintro e w1 ⟨rfl, hb⟩
  have s0 := (hb.block w.heap.size (by rw [SZ.out]; omega)).trans S0.out
  have s1 := (hb.block (w.heap.size + 1) (by rw [SZ.out]; omega)).trans S1.out
  have R0 := Lib.hid s0
  have R1 := Lib.hid s1
  have HB1 := Lib.hid (HB.out.trans (hb.mono HB.out.size))
  have LT1 := Lib.hid (Array.getElem?_eq_some_iff.1 s1).1
  have c1 : w1.cell? ⟨w.heap.size + 1, 0, none⟩ = some (.int .i64 0) := by rw [cell_of_row _ _ _ _ _ _ s1]; rfl
  have f1 : w1.frozen? ⟨w.heap.size + 1, 0, none⟩ = false := frozen_of_row (j := 0) _ _ _ _ s1
  obtain ⟨z0, z1, z2, zf⟩ := uzero_cells s0
  clear hb s0 s1
  go_wp2
  have t0 := (heap_setCell_other _ ⟨w.heap.size + 1, 0, none⟩ w.heap.size (.int .i64 0) (by show w.heap.size ≠ w.heap.size + 1; omega)).trans (three_set R0.out (.int .i64 a) (.int .i64 n) (.int .i64 g))
  have q1 := ((heap_setCell_other _ ⟨w.heap.size, 2, none⟩ (w.heap.size + 1) (.int .i64 g) (by show w.heap.size + 1 ≠ w.heap.size; omega)).trans ((heap_setCell_other _ ⟨w.heap.size, 1, none⟩ (w.heap.size + 1) (.int .i64 n) (by show w.heap.size + 1 ≠ w.heap.size; omega)).trans ((heap_setCell_other _ ⟨w.heap.size, 0, none⟩ (w.heap.size + 1) (.int .i64 a) (by show w.heap.size + 1 ≠ w.heap.size; omega)).trans R1.out)))
  have t1 := heap_setCell_same _ (w.heap.size + 1) 0 _ _ (.int .i64 0) q1
  have B2 := (below_three HB1.out (Nat.le_refl _) (.int .i64 a) (.int .i64 n) (.int .i64 g)).setCell (p := ⟨w.heap.size + 1, 0, none⟩) (by show _ ≤ w.heap.size + 1; omega) (.int .i64 0)
  obtain ⟨W2, hW2⟩ : ∃ W2, ((((w1.setCell ⟨w.heap.size, 0, none⟩ (.int .i64 a)).setCell ⟨w.heap.size, 1, none⟩ (.int .i64 n)).setCell ⟨w.heap.size, 2, none⟩ (.int .i64 g)).setCell ⟨w.heap.size + 1, 0, none⟩ (.int .i64 0)) = W2 := ⟨_, rfl⟩
  rw [hW2] at t0 t1 B2 ⊢
  have l1 := (Array.getElem?_eq_some_iff.1 t1).1
  refine leaves_cons (f := 19) (args := #[.pointer (some ⟨w.heap.size + 1, 0, none⟩)]) (by simp) (by simp [go_sem]) ?_
  refine (caught_none ⟨w.heap.size + 1, 0, none⟩ _).mono ?_
  rintro e u' w'' ⟨rfl, rfl, rfl⟩
  have hb3 : Below (w.heap.size + 2) W2 (W2.alloc (.cells #[.int .i64 0] 45)) := (Below.refl _ _).alloc (by omega) _
  have k1 : (W2.alloc (.cells #[.int .i64 0] 45)).cell? ⟨w.heap.size + 1, 0, none⟩ = some (.int .i64 0) := by rw [cell_of_row _ _ _ _ _ _ ((hb3.block (w.heap.size + 1) (by omega)).trans t1)]; rfl
  refine ⟨_, results_super_err (p := 2) (u := 3) rfl _ _ w.heap.size (w.heap.size + 1) _ _ _ _ rfl rfl ((hb3.block w.heap.size (by omega)).trans t0) k1, ?_, ?_⟩
  · rw [HX.out.1, HX.out.2]
  · exact B2.trans (hb3.mono (by omega))
/-- Decode, of any bytes. -/
theorem udec_any (s : List UInt8) (w : World) : Calls Try.prog 11 #[.string (Om.B s)] w (UDec s w) := by
  by_cases h : Um.decE s = 0
  · exact udec_good s w h
  · exact udec_wrong s w _ rfl h
/-- A superblock's sector is decoded to it. -/
theorem udec_back (a n g : Int) (w : World) (h : Um.okU a n g = true) :
    Calls Try.prog 11 #[.string (Om.B (Um.sector a n g))] w fun e w' => e = .returned (.tuple #[Uv a n g, .int .i64 0]) ∧ Below w.heap.size w w' :=
  (udec_any (Um.sector a n g) w).mono fun e w' ⟨he, hb⟩ => by
    obtain ⟨h1, h2, h3, h4⟩ := Um.back a n g h
    unfold udecV at he
    rw [h1, h2, h3, h4] at he
    exact ⟨he, hb⟩
theorem uenc_right (a n g : Int) (w : World) (h : Um.okU a n g = true) :
    Calls Try.prog 6 #[Uv a n g] w fun e w' => e = .returned (.tuple #[.string (Om.B (Um.sector a n g)), .int .i64 0]) ∧ Below w.heap.size w w' := by
  have := uenc_any a n g w
  rw [(Um.enc_ok h).1, (Um.enc_ok h).2] at this
  exact this
theorem udec_none (s : List UInt8) (w w' : World) (x : Int) (h : Um.decE s = x ∧ Um.decA s = 0 ∧ Um.decN s = 0 ∧ Um.decG s = 0) (hb : Below w.heap.size w w') : UDec s w (.returned (.tuple #[.agg #[.int .i64 0, .int .i64 0, .int .i64 0], .int .i64 x])) w' :=
  ⟨by unfold udecV; rw [h.1, h.2.1, h.2.2.1, h.2.2.2]; rfl, hb⟩
theorem udec_some (s : List UInt8) (w w' : World) (a n g : Nat) (h : Um.decE s = 0 ∧ Um.decA s = a ∧ Um.decN s = n ∧ Um.decG s = g) (hb : Below w.heap.size w w') : UDec s w (.returned (.tuple #[.agg #[.int .i64 (a : Int), .int .i64 (n : Int), .int .i64 (g : Int)], .int .i64 0])) w' :=
  ⟨by unfold udecV; rw [h.1, h.2.1, h.2.2.1, h.2.2.2]; rfl, hb⟩
theorem results_super {fn : Func} {p u : Tmp} (h : fn.results = #[.cell p 23, .tmp u]) (tmps : Array Value) (w : World) (g : Nat) (x0 x1 x2 v : Value)
    (hp : tmps.getD p undef = .pointer (some ⟨g, 0, none⟩)) (hu : tmps.getD u undef = v) (hg : w.heap[g]? = some (.cells #[x0, x1, x2] 23 (0, 0))) :
    (results fn tmps).run Try.prog w = .ok (.tuple #[.agg #[x0, x1, x2], v]) w := by
  have hi : (Try.prog.info? 23).map (·.size) = some (#[x0, x1, x2] : Array Value).size := by kernel_rfl
  rw [results_cell_tmp h, hp, hu]
  simp [asAddr, run_loadVar_row w g 23 23 #[x0, x1, x2] (0, 0) _ hg Try.underlying23 rfl hi, Result.andThen]
end Go.Proofs.Ytncbimgbjkdocaa
