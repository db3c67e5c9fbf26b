/- What a statement's exceptions give the walks. -/
import Derived.Test.YtaedgifboepgdaaRunAny
import Derived.OpenShut
import Derived.SizedLaws
import Derived.Deep.Slices
import Derived.Deep.Fields
namespace Go.Proofs.Ytaedgifboepgdaa
namespace Rn
open Go.RowKit Go.ChangeShapes Go.WideShapes Go.Deep Tb
set_option linter.unusedVariables false
set_option maxRecDepth 100000

section
variable {H : Type} {enc : TypeId × Value → H} {w : World} {spare : Nat → Bool} {held : Bool}

theorem lt_of_cell {w : World} {a : Addr} {v : Value} (h : w.cell? a = some v) : a.block < w.heap.size := by
  unfold World.cell? at h
  by_cases hb : a.block < w.heap.size
  · exact hb
  · rw [Array.getElem?_eq_none (by omega)] at h
    simp at h
theorem plain_at {a : Addr} {v : Value} (h : w.cell? a = some v) : ∃ b off, a = ⟨b, off, none⟩ := by
  obtain ⟨b, off, spot⟩ := a
  have : spot = none := by simpa using World.cell?_spot h
  subst this
  exact ⟨b, off, rfl⟩
theorem i64_wf {n : Int} (h : (Lit.int .i64 n).wf = true) : -9223372036854775808 ≤ n ∧ n ≤ 9223372036854775807 := by
  simp [Lit.wf, IntKind.min, IntKind.max, IntKind.signed, IntKind.bits] at h
  omega
theorem cells_int : Try.prog.cellsOf 3 = 1 := by kernel_rfl
theorem cells_ent : Try.prog.cellsOf 36 = 2 := by kernel_rfl
theorem bytes_ext : Try.prog.bytesOf 36 = 16 := by kernel_rfl
theorem ent_open {n b off : Nat} {cs : List Value} {y : DataW H × List MemPlace} (hc : w.cells? 0 ⟨b, off, none⟩ 2 = some cs) (h : DataW.trod enc Try.prog w 0 spare held n 36 cs = some y) :
    ∃ x : Int × Int, w.cell? ⟨b, off, none⟩ = some (.int .i64 x.1) ∧ w.cell? ⟨b, off + 1, none⟩ = some (.int .i64 x.2) ∧ (Lit.int .i64 x.1).wf = true := by
  obtain ⟨_, hl, hat⟩ := World.cells?_some hc
  obtain ⟨xs, m, _, _, _, hxl, hf⟩ := DataW.trod_struct Try.underlying36 h
  match cs, hl with
  | [v0, v1], _ =>
    have g0 := hat 0 (by decide)
    have g1 := hat 1 (by decide)
    have f0 : DataW.trod enc Try.prog w 0 spare held m 3 ((([v0, v1] : List Value).drop 0).take (Try.prog.cellsOf 3)) = xs[0]? := hf 0 _ rfl
    have f1 : DataW.trod enc Try.prog w 0 spare held m 3 ((([v0, v1] : List Value).drop 1).take (Try.prog.cellsOf 3)) = xs[1]? := hf 1 _ rfl
    have hxl : xs.length = 2 := hxl
    rw [cells_int, List.getElem?_eq_getElem (by omega)] at f0 f1
    obtain ⟨a, e0, _, w0⟩ := DataW.trod_int Try.underlying3 f0
    obtain ⟨q, e1, _, w1⟩ := DataW.trod_int Try.underlying3 f1
    have e0 : v0 = .int .i64 a := by simpa using e0
    have e1 : v1 = .int .i64 q := by simpa using e1
    refine ⟨(a, q), ?_, ?_, w0⟩
    · rw [← e0]; exact g0
    · rw [← e1]; exact g1
/-- Exceptions that came in. -/
structure Args (w : World) (a : Option Addr) (c : Nat) (u : List (Int × Int)) : Prop where
  row : REnts w a u
  cap : u.length ≤ c
  small : ∀ x ∈ u, (Lit.int .i64 x.1).wf = true
theorem view_all {fuel : Nat} {v : Value} {x : DataW H × List MemPlace} (h : DataW.trod enc Try.prog w 0 spare held fuel 22 [v] = some x) :
    ∃ (a : Option Addr) (xs : List (Int × Int)) (c : Nat), v = .slice a xs.length c ∧ xs.length ≤ maxLen ∧ Args w a c xs ∧ ∀ B, (∀ elems sp, x.1 = .slice elems sp → (elems.length + sp.length) * 16 ≤ B) → xs.length * 16 ≤ B := by
  rcases open_slice Try.underlying22 h with ⟨h0, _⟩ | ⟨a, len, cap, m, n, D, Pl, hv, _, hlc, hcm, hm, hxe, hx⟩
  · injection h0 with h0
    exact ⟨none, [], 0, h0, Nat.zero_le _, ⟨REnts.nil _ _, Nat.le_refl _, fun x hx => by cases hx⟩, fun B _ => by simp⟩
  · injection hv with hv
    have hlm : len ≤ m := by rw [hm]; split <;> omega
    rw [cells_ent] at hx
    have hB : ∀ B, (∀ elems sp, x.1 = .slice elems sp → (elems.length + sp.length) * 16 ≤ B) → len * 16 ≤ B := fun B hb => by
      have := hb _ _ (by rw [hxe])
      simp at this
      exact Nat.le_trans (by omega) this
    by_cases hz : len = 0
    · subst hz
      exact ⟨some a, [], cap, hv, Nat.zero_le _, ⟨REnts.nil _ _, Nat.zero_le _, fun x hx => by cases hx⟩, hB⟩
    · obtain ⟨cs0, hc0, _⟩ := hx 0 (by omega)
      obtain ⟨_, _, hat0⟩ := World.cells?_some hc0
      have h0 := hat0 0 (by decide)
      have hl0 : 0 < cs0.length := by obtain ⟨_, hl, _⟩ := World.cells?_some hc0; omega
      rw [List.getElem?_eq_getElem hl0] at h0
      rw [show (a.add (0 * 2)).add 0 = a from rfl] at h0
      obtain ⟨b, off, rfl⟩ := plain_at h0
      obtain ⟨X, hX⟩ := choose_lt (α := Int × Int) (n := m) (p := fun i x => w.cell? ⟨b, off + i * 2, none⟩ = some (.int .i64 x.1) ∧ w.cell? ⟨b, off + i * 2 + 1, none⟩ = some (.int .i64 x.2) ∧ (Lit.int .i64 x.1).wf = true) (fun i hi => by
        obtain ⟨cs, h1, h2⟩ := hx i hi
        rw [Go.WideShapes.add_plain] at h1
        exact ent_open h1 h2)
      refine ⟨some ⟨b, off, none⟩, (List.range len).map X, cap, by rw [hv, List.length_map, List.length_range], by rw [List.length_map, List.length_range]; omega, ⟨fun hn => ⟨b, off, rfl, lt_of_cell h0, fun i x hi => ?_⟩, by rw [List.length_map, List.length_range]; exact hlc, fun x hx => ?_⟩, by rw [List.length_map, List.length_range]; exact hB⟩
      · have hil : i < len := by have := (List.getElem?_eq_some_iff.1 hi).1; rwa [List.length_map, List.length_range] at this
        rw [List.getElem?_map, List.getElem?_range hil] at hi
        injection hi with hi
        rw [← hi]
        exact ⟨(hX i (by omega)).1, (hX i (by omega)).2.1⟩
      · obtain ⟨i, hi, rfl⟩ := List.mem_map.1 hx
        exact (hX i (by have := List.mem_range.1 hi; omega)).2.2
theorem Args.in_ {a : Option Addr} {c : Nat} {u : List (Int × Int)} (h : Args w a c u) (m : Int) (hm : (Lit.int .i64 m).wf = true) (hz : u.length * 16 ≤ 140737488351232) : In m u u.length c :=
  ⟨rfl, h.cap, fun x hx => i64_wf (h.small x hx), (i64_wf hm).1, (i64_wf hm).2, hz⟩
end
end Rn
end Go.Proofs.Ytaedgifboepgdaa
