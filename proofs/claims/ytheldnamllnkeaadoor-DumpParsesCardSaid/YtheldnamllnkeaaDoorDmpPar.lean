/- The contract of dump's Parse. -/
import Derived.Test.YtheldnamllnkeaaDoorDmpTry
import Derived.Test.YtheldnamllnkeaaDoorDmpRepO
namespace Go.Proofs.YtheldnamllnkeaaDoor
namespace Pd
open Go.RowKit Dsk
set_option maxRecDepth 100000
set_option linter.unusedVariables false

theorem caughtR_no (q p : Addr) (y z : Int) (older : List PanicEntry) (w : World) (hq : w.cell? q = some (.int .i64 z)) (hc : w.cell? p = some (.int .i64 y)) (hz : w.frozen? p = false) :
    CallsD Tryd.prog 33 #[.pointer (some q), .pointer (some p)] (.panicking ({ v := .iface 74 (.agg #[]), recovered := false } :: older)) w fun e u' w' =>
      e = .returned (.tuple #[]) ∧ u' = (.panicking ({ v := .iface 74 (.agg #[]), recovered := true } :: older)) ∧ w' = (w.alloc (.cells #[] 74)).setCell p (.int .i64 z) := by
  have h1 := tw_yes
  have h2 := tn_no
  have hp := lt_of_cell hc
  have hqq := lt_of_cell hq
  have hq1 : (w.alloc (.cells #[] 74)).cell? q = some (.int .i64 z) := ((((Below.refl _ w).alloc (Nat.le_refl _) _).cell hqq)).trans hq
  have hc1 : (w.alloc (.cells #[] 74)).cell? p = some (.int .i64 y) := ((((Below.refl _ w).alloc (Nat.le_refl _) _).cell hp)).trans hc
  have hz1 : (w.alloc (.cells #[] 74)).frozen? p = false := ((((Below.refl _ w).alloc (Nat.le_refl _) _).frozen hp)).trans hz
  refine callsD_of_wpS Tryd.func33 rfl fun c₀ cs hu => ?_
  apply wpS_seq
  apply wpS_region
  simp [wpOpsS, go_sem, recoverD, hu, Tryd.ntmps33, Exit.thenS]
  rw [show (#[Value.pointer (some q), Value.pointer (some p)] ++ (Array.replicate 10 undef).setIfInBounds 3 (.iface 74 (.agg #[]))) = #[.pointer (some q), .pointer (some p), undef, undef, undef, (.iface 74 (.agg #[])), undef, undef, undef, undef, undef, undef] from rfl]
  refine wpS_of_wp ?_
  go_wp2
  simp [bodyPostS, results, Tryd.results33]
theorem caughtR_none (q p : Addr) (w : World) :
    CallsD Tryd.prog 33 #[.pointer (some q), .pointer (some p)] .returning w fun e u' w' =>
      e = .returned (.tuple #[]) ∧ u' = .returning ∧ w' = w := by
  have h2 := tn_yes
  refine callsD_of_wpS Tryd.func33 rfl fun c₀ cs hu => ?_
  apply wpS_seq
  apply wpS_region
  simp [wpOpsS, go_sem, recoverD, hu, Tryd.ntmps33, Exit.thenS]
  rw [show (#[Value.pointer (some q), Value.pointer (some p)] ++ (Array.replicate 10 undef).setIfInBounds 3 .nilIface) = #[.pointer (some q), .pointer (some p), undef, undef, undef, .nilIface, undef, undef, undef, undef, undef, undef] from rfl]
  refine wpS_of_wp ?_
  go_wp2
  cases c₀
  simp_all [bodyPostS, results, Tryd.results33]

/-- What Parse tells. -/
def PIs (l : List (List UInt8)) (w : World) (e : Ending) (w' : World) : Prop := ∃ a c evs, e = .returned (.tuple #[Rv (parseV l) a c, .int .i64 (parseE l)]) ∧ Rows w' w.heap.size (.slice a (parseV l).ls.length c) (parseV l).ls evs ∧ Below w.heap.size w w'
theorem parse_ok {l : List (List UInt8)} {r : Rp} (h : parse l = some r) : parseV l = r ∧ parseE l = 0 := by unfold parseV parseE; rw [h]; exact ⟨rfl, rfl⟩
theorem parse_bad {l : List (List UInt8)} (h : parse l = none) : parseV l = none0 ∧ parseE l = 32 := by unfold parseV parseE; rw [h]; exact ⟨rfl, rfl⟩
theorem rep_set {w : World} {g : Nat} {a b c d : Value} {t : TypeId} (h : w.heap[g]? = some (.cells #[a, b, c, d] t (0, 0))) (x y z v : Value) :
    ((((w.setCell ⟨g, 0, none⟩ x).setCell ⟨g, 1, none⟩ y).setCell ⟨g, 2, none⟩ z).setCell ⟨g, 3, none⟩ v).heap[g]? = some (.cells #[x, y, z, v] t (0, 0)) := by
  have h1 := heap_setCell_same w g 0 _ _ x h
  have h2 := heap_setCell_same _ g 1 _ _ y h1
  have h3 := heap_setCell_same _ g 2 _ _ z h2
  exact heap_setCell_same _ g 3 _ _ v h3
/-- Rows in a world where some blocks of other types have turned. -/
theorem Rows.apart {W W' : World} {B : Nat} {v : Value} {ls : List Ln} {evs : List Value} (h : Rows W B v ls evs) {F : Nat → Prop} (hf : Fr F W W') (hF : ∀ b, F b → ∃ cs t, W.heap[b]? = some (.cells cs t (0, 0)) ∧ t ≠ 54 ∧ t ≠ 56) : Rows W' B v ls evs :=
  h.fr hf fun b c e hb cur => by
    obtain ⟨cs, t, h1, h2, h3⟩ := hF b e
    rw [h1] at hb
    cases hb
    exact ⟨fun e => by injection e with _ e _; exact h2 e, fun e => by injection e with _ e _; exact h3 e⟩
theorem rows_from {W : World} {B B' : Nat} {v : Value} {ls : List Ln} {evs : List Value} (h : Rows W B v ls evs) (hB : B' ≤ B) : Rows W B' v ls evs := by
  have low : ∀ {e : TypeId} {size : Nat} {v : Value} {n : Nat} {xs : List Value}, W.ownsRow B e size v n xs → W.ownsRow B' e size v n xs := fun h => by
    refine ⟨h.1, ?_⟩
    rcases h.2 with h2 | ⟨g, cap, cur, hv, hg, r⟩
    · exact .inl h2
    · exact .inr ⟨g, cap, cur, hv, Nat.le_trans hB hg, r⟩
  exact ⟨h.len, low h.row, fun i x ev h1 h2 => low (h.ent i x ev h1 h2), h.ne⟩
theorem fr_four {W : World} {g : Nat} (x y z v : Value) : Fr (fun b => b = g) W ((((W.setCell ⟨g, 0, none⟩ x).setCell ⟨g, 1, none⟩ y).setCell ⟨g, 2, none⟩ z).setCell ⟨g, 3, none⟩ v) :=
  ((((Fr.refl (fun b => b = g) W).setCell ⟨g, 0, none⟩ rfl x).setCell ⟨g, 1, none⟩ rfl y).setCell ⟨g, 2, none⟩ rfl z).setCell ⟨g, 3, none⟩ rfl v
/-- The closure that makes a report. -/
theorem parse_clo (l : List (List UInt8)) (a : Option Addr) (c k : Nat) (w : World) (hv : Vs w) (hg : 0 < w.heap.size) (hc : l.length ≤ c) (hcc : c ≤ 9223372036854775807) (hl : ∀ x ∈ l, x.length ≤ 4294967295) (hr : l.length ≤ 1000000) (hR : SRow w a l)
    (hk : w.heap[k]? = some (.cells #[.slice a l.length c] 29 (0, 0))) :
    Calls Tryd.prog 23 #[.pointer (some ⟨k, 0, none⟩)] w (RepIs l w) := by
  obtain ⟨W0, hW0⟩ : ∃ W0, w.alloc (.cells #[.int .i64 0, .int .i64 0, .int .i64 0, .slice none 0 0] 26) = W0 := ⟨_, rfl⟩
  have hB : Below w.heap.size w W0 := by rw [← hW0]; exact (Below.refl _ w).alloc (Nat.le_refl _) _
  have hR0 : W0.heap[w.heap.size]? = some (.cells #[.int .i64 0, .int .i64 0, .int .i64 0, .slice none 0 0] 26 (0, 0)) := by rw [← hW0]; exact heap_alloc_new w _
  have hlt := (Array.getElem?_eq_some_iff.1 hR0).1
  have RO : Calls Tryd.prog 24 #[.slice a l.length c] W0 (RepIs l W0) := by
    cases l with
    | nil => exact repo_nil a c W0
    | cons s r => exact repo_cons s r a c W0 (hv.below hB) (Nat.lt_of_lt_of_le hg hB.size) hc hcc hl (by simp only [List.length_cons] at hr; omega) (hR.below hB)
  have c0 : W0.cell? ⟨k, 0, none⟩ = some (.slice a l.length c) := by rw [cell_of_row _ _ _ _ _ _ ((hB.block k (Array.getElem?_eq_some_iff.1 hk).1).trans hk)]; rfl
  have RO := Lib.hid RO
  have HB := Lib.hid hB
  have R0 := Lib.hid hR0
  have LT := Lib.hid hlt
  clear hv hg hc hcc hl hr hR hk hB hR0 hlt
  go_enter Tryd.func23, Tryd.ntmps23
  go_wp2_with fail
  clear hW0
  refine RO.out.mono ?_
  rintro e w1 hh
  rcases hh with ⟨r, ra, rc, evs, h1, rfl, h3, h4⟩ | ⟨h1, rfl, h3⟩
  · have H1 := Lib.hid h1
    have H3 := Lib.hid h3
    have H4 := Lib.hid h4
    have R1 := Lib.hid ((h4.block _ LT.out).trans R0.out)
    unfold Rv
    have z0 : w1.cell? ⟨w.heap.size, 0, none⟩ = some (.int .i64 0) := by rw [cell_of_row _ _ _ _ _ _ R1.out]; rfl
    have z1 : w1.cell? ⟨w.heap.size, 1, none⟩ = some (.int .i64 0) := by rw [cell_of_row _ _ _ _ _ _ R1.out]; rfl
    have z2 : w1.cell? ⟨w.heap.size, 2, none⟩ = some (.int .i64 0) := by rw [cell_of_row _ _ _ _ _ _ R1.out]; rfl
    have z3 : w1.cell? ⟨w.heap.size, 3, none⟩ = some (.slice none 0 0) := by rw [cell_of_row _ _ _ _ _ _ R1.out]; rfl
    have zf : ∀ j, w1.frozen? ⟨w.heap.size, j, none⟩ = false := fun j => frozen_of_row (j := j) _ _ _ _ R1.out
    clear h1 h3 h4
    go_wp2_with fail
    refine bodyPost_ret (results_cell_row (p := 1) (ty := 26) rfl _ _ w.heap.size 26 _ (0, 0) _ rfl (rep_set R1.out _ _ _ _) Tryd.underlying26 rfl size_rep) rfl (.inl ⟨r, ra, rc, evs, H1.out, rfl, ?_, ?_⟩)
    · refine rows_from (H3.out.apart (fr_four _ _ _ _) fun b hb => ?_) HB.out.size
      subst hb
      exact ⟨_, _, R1.out, by decide, by decide⟩
    · exact (HB.out.trans (H4.out.mono HB.out.size)).trans ((fr_four _ _ _ _).below (HB.out.trans (H4.out.mono HB.out.size)).size fun b hb => by rw [hb]; exact Nat.le_refl _)
  · have H1 := Lib.hid h1
    have H3 := Lib.hid (HB.out.trans (h3.mono HB.out.size))
    clear h1 h3
    unfold noE
    go_wp2
    exact ⟨rfl, .inr ⟨H1.out, rfl, H3.out⟩⟩
end Pd
end Go.Proofs.YtheldnamllnkeaaDoor
