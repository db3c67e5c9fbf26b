/- What a statement's acts and numbers give the walks. -/
import Derived.Test.YtibemiiflibnaaaTabLoad
import Derived.OpenShut
import Derived.SizedLaws
import Derived.Deep.Slices
import Derived.Deep.Fields
namespace Go.Proofs.Ytibemiiflibnaaa
namespace Tb
open Go.RowKit Go.ChangeShapes Go.WideShapes Go.Deep
set_option linter.unusedVariables false
set_option maxRecDepth 100000

section
variable {H : Type} {enc : TypeId × Value → H} {w : World} {spare : Nat → Bool} {held : Bool}

theorem lt_of_cell {w : World} {a : Addr} {v : Value} (h : w.cell? a = some v) : a.block < w.heap.size := by
  unfold World.cell? at h
  by_cases hb : a.block < w.heap.size
  · exact hb
  · rw [Array.getElem?_eq_none (by omega)] at h
    simp at h
theorem plain_at {a : Addr} {v : Value} (h : w.cell? a = some v) : ∃ b off, a = ⟨b, off, none⟩ := by
  obtain ⟨b, off, spot⟩ := a
  have : spot = none := by simpa using World.cell?_spot h
  subst this
  exact ⟨b, off, rfl⟩
theorem i64_wf {n : Int} (h : (Lit.int .i64 n).wf = true) : -9223372036854775808 ≤ n ∧ n ≤ 9223372036854775807 := by
  simp [Lit.wf, IntKind.min, IntKind.max, IntKind.signed, IntKind.bits] at h
  omega
theorem cells_int : Try.prog.cellsOf 3 = 1 := by kernel_rfl
theorem cells_bool : Try.prog.cellsOf 4 = 1 := by kernel_rfl
theorem cells_act : Try.prog.cellsOf 31 = 2 := by kernel_rfl
/-- An act as it lies. -/
def ActAt (w : World) (b off : Nat) (x : Bool × Int) : Prop := w.cell? ⟨b, off, none⟩ = some (.bool x.1) ∧ w.cell? ⟨b, off + 1, none⟩ = some (.int .i64 x.2) ∧ (Lit.int .i64 x.2).wf = true
/-- Acts that came in. -/
def Acts (w : World) (a : Option Addr) (xs : List (Bool × Int)) : Prop := xs ≠ [] → ∃ b off, a = some ⟨b, off, none⟩ ∧ b < w.heap.size ∧ ∀ i x, xs[i]? = some x → ActAt w b (off + i * 2) x
theorem Acts.nil (w : World) (a : Option Addr) : Acts w a [] := fun h => (h rfl).elim
theorem Acts.below {w w' : World} {a : Option Addr} {xs : List (Bool × Int)} (h : Acts w a xs) (hb : Below w.heap.size w w') : Acts w' a xs := fun hn => by
  obtain ⟨b, off, e, hlt, hc⟩ := h hn
  exact ⟨b, off, e, Nat.lt_of_lt_of_le hlt hb.size, fun i x hx => ⟨(hb.cell (p := ⟨b, off + i * 2, none⟩) hlt).trans (hc i x hx).1, (hb.cell (p := ⟨b, off + i * 2 + 1, none⟩) hlt).trans (hc i x hx).2.1, (hc i x hx).2.2⟩⟩
theorem act_open {n b off : Nat} {cs : List Value} {y : DataW H × List MemPlace} (hc : w.cells? 0 ⟨b, off, none⟩ 2 = some cs) (h : DataW.trod enc Try.prog w 0 spare held n 31 cs = some y) : ∃ x : Bool × Int, ActAt w b off x := by
  obtain ⟨_, hl, hat⟩ := World.cells?_some hc
  obtain ⟨xs, m, _, _, _, hxl, hf⟩ := DataW.trod_struct Try.underlying31 h
  match cs, hl with
  | [v0, v1], _ =>
    have g0 := hat 0 (by decide)
    have g1 := hat 1 (by decide)
    have f0 : DataW.trod enc Try.prog w 0 spare held m 4 ((([v0, v1] : List Value).drop 0).take (Try.prog.cellsOf 4)) = xs[0]? := hf 0 _ rfl
    have f1 : DataW.trod enc Try.prog w 0 spare held m 3 ((([v0, v1] : List Value).drop 1).take (Try.prog.cellsOf 3)) = xs[1]? := hf 1 _ rfl
    have hxl : xs.length = 2 := hxl
    rw [cells_bool, List.getElem?_eq_getElem (by omega)] at f0
    rw [cells_int, List.getElem?_eq_getElem (by omega)] at f1
    obtain ⟨a, e0, _⟩ := DataW.trod_bool Try.underlying4 f0
    obtain ⟨q, e1, _, w1⟩ := DataW.trod_int Try.underlying3 f1
    have e0 : v0 = .bool a := by simpa using e0
    have e1 : v1 = .int .i64 q := by simpa using e1
    refine ⟨(a, q), ?_, ?_, w1⟩
    · rw [← e0]; exact g0
    · rw [← e1]; exact g1
theorem view_acts {fuel : Nat} {v : Value} {x : DataW H × List MemPlace} (h : DataW.trod enc Try.prog w 0 spare held fuel 22 [v] = some x) :
    ∃ (a : Option Addr) (xs : List (Bool × Int)) (c : Nat), v = .slice a xs.length c ∧ xs.length ≤ maxLen ∧ Acts w a xs := by
  rcases open_slice Try.underlying22 h with ⟨h0, _⟩ | ⟨a, len, cap, m, n, D, Pl, hv, _, hlc, hcm, hm, hxe, hx⟩
  · injection h0 with h0
    exact ⟨none, [], 0, h0, Nat.zero_le _, Acts.nil _ _⟩
  · injection hv with hv
    have hlm : len ≤ m := by rw [hm]; split <;> omega
    rw [cells_act] at hx
    by_cases hz : len = 0
    · subst hz
      exact ⟨some a, [], cap, hv, Nat.zero_le _, Acts.nil _ _⟩
    · obtain ⟨cs0, hc0, _⟩ := hx 0 (by omega)
      obtain ⟨_, _, hat0⟩ := World.cells?_some hc0
      have h0 := hat0 0 (by decide)
      have hl0 : 0 < cs0.length := by obtain ⟨_, hl, _⟩ := World.cells?_some hc0; omega
      rw [List.getElem?_eq_getElem hl0] at h0
      rw [show (a.add (0 * 2)).add 0 = a from rfl] at h0
      obtain ⟨b, off, rfl⟩ := plain_at h0
      obtain ⟨X, hX⟩ := choose_lt (α := Bool × Int) (n := m) (p := fun i x => ActAt w b (off + i * 2) x) (fun i hi => by
        obtain ⟨cs, h1, h2⟩ := hx i hi
        rw [Go.WideShapes.add_plain] at h1
        exact act_open h1 h2)
      refine ⟨some ⟨b, off, none⟩, (List.range len).map X, cap, by rw [hv, List.length_map, List.length_range], by rw [List.length_map, List.length_range]; omega, fun hn => ⟨b, off, rfl, lt_of_cell h0, fun i x hi => ?_⟩⟩
      have hil : i < len := by have := (List.getElem?_eq_some_iff.1 hi).1; rwa [List.length_map, List.length_range] at this
      rw [List.getElem?_map, List.getElem?_range hil] at hi
      injection hi with hi
      rw [← hi]
      exact hX i (by omega)
/-- Numbers that came in. -/
structure Nums (w : World) (a : Option Addr) (c : Nat) (xs : List Int) : Prop where
  row : Rd w a xs
  cap : xs.length ≤ c
  wf : ∀ x ∈ xs, (Lit.int .i64 x).wf = true
theorem view_nums {fuel : Nat} {v : Value} {x : DataW H × List MemPlace} (h : DataW.trod enc Try.prog w 0 spare held fuel 26 [v] = some x) :
    ∃ (a : Option Addr) (xs : List Int) (c : Nat), v = .slice a xs.length c ∧ xs.length ≤ maxLen ∧ Nums w a c xs := by
  rcases open_slice Try.underlying26 h with ⟨h0, _⟩ | ⟨a, len, cap, m, n, D, Pl, hv, _, hlc, hcm, hm, hxe, hx⟩
  · injection h0 with h0
    exact ⟨none, [], 0, h0, Nat.zero_le _, ⟨fun h => (h rfl).elim, Nat.le_refl _, fun x hx => by cases hx⟩⟩
  · injection hv with hv
    have hlm : len ≤ m := by rw [hm]; split <;> omega
    rw [cells_int] at hx
    by_cases hz : len = 0
    · subst hz
      exact ⟨some a, [], cap, hv, Nat.zero_le _, ⟨fun h => (h rfl).elim, hlc, fun x hx => by cases hx⟩⟩
    · obtain ⟨cs0, hc0, _⟩ := hx 0 (by omega)
      obtain ⟨_, _, hat0⟩ := World.cells?_some hc0
      have h0 := hat0 0 (by decide)
      have hl0 : 0 < cs0.length := by obtain ⟨_, hl, _⟩ := World.cells?_some hc0; omega
      rw [List.getElem?_eq_getElem hl0] at h0
      rw [show (a.add (0 * 1)).add 0 = a from rfl] at h0
      obtain ⟨b, off, rfl⟩ := plain_at h0
      obtain ⟨X, hX⟩ := choose_lt (α := Int) (n := m) (p := fun i x => w.cell? ⟨b, off + i, none⟩ = some (.int .i64 x) ∧ (Lit.int .i64 x).wf = true) (fun i hi => by
        obtain ⟨cs, h1, h2⟩ := hx i hi
        rw [Go.WideShapes.add_plain, Nat.mul_one] at h1
        obtain ⟨_, hl, hat⟩ := World.cells?_some h1
        match cs, hl with
        | [v0], _ =>
          have g0 := hat 0 (by decide)
          obtain ⟨q, e1, _, w1⟩ := DataW.trod_int Try.underlying3 h2
          have e1 : v0 = .int .i64 q := by simpa using e1
          exact ⟨q, by rw [← e1]; exact g0, w1⟩)
      refine ⟨some ⟨b, off, none⟩, (List.range len).map X, cap, by rw [hv, List.length_map, List.length_range], by rw [List.length_map, List.length_range]; omega, ⟨fun hn => ⟨b, off, rfl, lt_of_cell h0, fun i x hi => ?_⟩, by rw [List.length_map, List.length_range]; exact hlc, fun x hx => ?_⟩⟩
      · have hil : i < len := by have := (List.getElem?_eq_some_iff.1 hi).1; rwa [List.length_map, List.length_range] at this
        rw [List.getElem?_map, List.getElem?_range hil] at hi
        injection hi with hi
        rw [← hi]
        exact (hX i (by omega)).1
      · obtain ⟨i, hi, rfl⟩ := List.mem_map.1 hx
        exact (hX i (by have := List.mem_range.1 hi; omega)).2
end
end Tb
end Go.Proofs.Ytibemiiflibnaaa
