/- What comes in, opened: a report of lines of exceptions, by value; a row of strings. -/
import Derived.Test.YtheldnamllnkeaaDoorDmpThere
import Derived.OpenShut
import Derived.Deep.Slices
import Derived.Deep.Fields
import Derived.Lib.SmallJoins
namespace Go.Proofs.YtheldnamllnkeaaDoor
namespace Pd
open Go.RowKit Go.ChangeShapes Go.WideShapes Go.Deep Go.WideElems Go.Maps Dsk
set_option linter.unusedVariables false
set_option maxRecDepth 100000

theorem lt_cell {w : World} {a : Addr} {v : Value} (h : w.cell? a = some v) : a.block < w.heap.size := by
  unfold World.cell? at h
  by_cases hb : a.block < w.heap.size
  · exact hb
  · rw [Array.getElem?_eq_none (by omega)] at h
    simp at h
theorem plain_cell {a : Addr} {v : Value} {w : World} (h : w.cell? a = some v) : ∃ b off, a = ⟨b, off, none⟩ := by
  obtain ⟨b, off, spot⟩ := a
  have : spot = none := by simpa using World.cell?_spot h
  subst this
  exact ⟨b, off, rfl⟩
theorem i64_in {n : Int} (h : (Lit.int .i64 n).wf = true) : -9223372036854775808 ≤ n ∧ n ≤ 9223372036854775807 := by
  simp [Lit.wf, IntKind.min, IntKind.max, IntKind.signed, IntKind.bits] at h
  omega
theorem u32_in {n : Int} (h : (Lit.int .u32 n).wf = true) : ∃ m : Nat, n = (m : Int) ∧ m ≤ 4294967295 := by
  simp [Lit.wf, IntKind.min, IntKind.max, IntKind.signed, IntKind.bits] at h
  exact ⟨n.toNat, by omega, by omega⟩
theorem cl_int : Tryd.prog.cellsOf 3 = 1 := by kernel_rfl
theorem cl_state : Tryd.prog.cellsOf 46 = 1 := by kernel_rfl
theorem cl_u32 : Tryd.prog.cellsOf 49 = 1 := by kernel_rfl
theorem cl_bool : Tryd.prog.cellsOf 4 = 1 := by kernel_rfl
theorem cl_ents : Tryd.prog.cellsOf 52 = 1 := by kernel_rfl
theorem cl_ent : Tryd.prog.cellsOf 56 = 2 := by kernel_rfl
theorem cl_extent : Tryd.prog.cellsOf 48 = 2 := by kernel_rfl
theorem cl_slot : Tryd.prog.cellsOf 51 = 4 := by kernel_rfl
theorem cl_line : Tryd.prog.cellsOf 54 = 8 := by kernel_rfl
theorem cl_super : Tryd.prog.cellsOf 23 = 3 := by kernel_rfl
theorem cl_lines : Tryd.prog.cellsOf 24 = 1 := by kernel_rfl
theorem cl_report : Tryd.prog.cellsOf 26 = 4 := by kernel_rfl
section
variable {H : Type} {enc : TypeId × Value → H} {w : World} {spare : Nat → Bool} {held : Bool}

theorem view_strs {fuel : Nat} {v : Value} {x : DataW H × List MemPlace} (h : DataW.trod enc Tryd.prog w 0 spare held fuel 29 [v] = some x) :
    ∃ (a : Option Addr) (l : List (List UInt8)) (c : Nat), v = .slice a l.length c ∧ l.length ≤ 9223372036854775807 ∧ l.length ≤ c ∧ c ≤ 9223372036854775807 ∧ (∀ y ∈ l, y.length ≤ 9223372036854775807) ∧ SRow w a l := by
  rcases open_slice1 Tryd.underlying29 (by kernel_rfl) h with ⟨h0, _⟩ | ⟨a, len, cap, m, n, V, D, Pl, hv, _, hlc, hcm, hm, _, hx⟩
  · injection h0 with h0
    exact ⟨none, [], 0, h0, Nat.zero_le _, Nat.zero_le _, Nat.zero_le _, by simp, fun h => absurd rfl h⟩
  · injection hv with hv
    have hlm : len ≤ m := by rw [hm]; split <;> omega
    obtain ⟨B, hB⟩ := choose_lt (α := List UInt8) (n := m) (p := fun i b => w.cell? (a.add i) = some (.string (Om.B b)) ∧ b.length ≤ 9223372036854775807) (fun i hi => by
      obtain ⟨h1, h2⟩ := hx i hi
      obtain ⟨b, hb, _, wb⟩ := DataW.trod_string Tryd.underlying9 h2
      injection hb with hb
      exact ⟨Om.L b, by rw [h1, hb, Om.B_L], by rw [Om.L_length]; unfold maxLen at wb; exact wb⟩)
    refine ⟨some a, (List.range len).map B, cap, ?_, ?_, ?_, ?_, ?_, fun hn => ?_⟩
    · rw [hv, List.length_map, List.length_range]
    · rw [List.length_map, List.length_range]; unfold maxLen at hcm; omega
    · rw [List.length_map, List.length_range]; exact hlc
    · unfold maxLen at hcm; exact hcm
    · intro y hy
      obtain ⟨i, hi, rfl⟩ := List.mem_map.1 hy
      exact (hB i (by have := List.mem_range.1 hi; omega)).2
    · have hl0 : 0 < len := by
        rcases Nat.eq_zero_or_pos len with h0 | h0
        · rw [h0] at hn; exact absurd rfl hn
        · exact h0
      have h0 := (hB 0 (by omega)).1
      rw [show a.add 0 = a from rfl] at h0
      obtain ⟨b, off, rfl⟩ := plain_cell h0
      refine ⟨b, off, rfl, lt_cell h0, fun i y hy => ?_⟩
      have hi : i < len := by have := (List.getElem?_eq_some_iff.1 hy).1; rwa [List.length_map, List.length_range] at this
      rw [List.getElem?_map, List.getElem?_range hi] at hy
      injection hy with hy
      rw [← Go.WideShapes.add_plain, (hB i (by omega)).1, hy]
/-- Two ints beside each other. -/
theorem two_ints {ty : TypeId} {xs : List (DataW H × List MemPlace)} {m : Nat} {v0 v1 : Value} (hxl : xs.length = 2)
    (f0 : DataW.trod enc Tryd.prog w 0 spare held m 3 ((([v0, v1] : List Value).drop 0).take (Tryd.prog.cellsOf 3)) = xs[0]?)
    (f1 : DataW.trod enc Tryd.prog w 0 spare held m 3 ((([v0, v1] : List Value).drop 1).take (Tryd.prog.cellsOf 3)) = xs[1]?) :
    ∃ a b, v0 = .int .i64 a ∧ v1 = .int .i64 b ∧ (-9223372036854775808 ≤ a ∧ a ≤ 9223372036854775807) ∧ -9223372036854775808 ≤ b ∧ b ≤ 9223372036854775807 := by
  rw [cl_int, List.getElem?_eq_getElem (by omega)] at f0 f1
  obtain ⟨a, e0, _, w0⟩ := DataW.trod_int Tryd.underlying3 f0
  obtain ⟨b, e1, _, w1⟩ := DataW.trod_int Tryd.underlying3 f1
  exact ⟨a, b, by simpa using e0, by simpa using e1, i64_in w0, i64_in w1⟩
theorem ent_vals {n : Nat} {v0 v1 : Value} {y : DataW H × List MemPlace} (h : DataW.trod enc Tryd.prog w 0 spare held n 56 [v0, v1] = some y) :
    ∃ a b, v0 = .int .i64 a ∧ v1 = .int .i64 b ∧ (-9223372036854775808 ≤ a ∧ a ≤ 9223372036854775807) ∧ -9223372036854775808 ≤ b ∧ b ≤ 9223372036854775807 := by
  obtain ⟨xs, m, _, _, _, hxl, hf⟩ := DataW.trod_struct Tryd.underlying56 h
  exact two_ints (ty := 0) hxl (hf 0 _ rfl) (hf 1 _ rfl)
theorem extent_vals {n : Nat} {v0 v1 : Value} {y : DataW H × List MemPlace} (h : DataW.trod enc Tryd.prog w 0 spare held n 48 [v0, v1] = some y) :
    ∃ a b, v0 = .int .i64 a ∧ v1 = .int .i64 b ∧ (-9223372036854775808 ≤ a ∧ a ≤ 9223372036854775807) ∧ -9223372036854775808 ≤ b ∧ b ≤ 9223372036854775807 := by
  obtain ⟨xs, m, _, _, _, hxl, hf⟩ := DataW.trod_struct Tryd.underlying48 h
  exact two_ints (ty := 0) hxl (hf 0 _ rfl) (hf 1 _ rfl)
theorem super_vals {n : Nat} {v0 v1 v2 : Value} {y : DataW H × List MemPlace} (h : DataW.trod enc Tryd.prog w 0 spare held n 23 [v0, v1, v2] = some y) :
    ∃ a b c, v0 = .int .i64 a ∧ v1 = .int .i64 b ∧ v2 = .int .i64 c ∧ (-9223372036854775808 ≤ a ∧ a ≤ 9223372036854775807) ∧ (-9223372036854775808 ≤ b ∧ b ≤ 9223372036854775807) ∧ -9223372036854775808 ≤ c ∧ c ≤ 9223372036854775807 := by
  obtain ⟨xs, m, _, _, _, hxl, hf⟩ := DataW.trod_struct Tryd.underlying23 h
  have hxl : xs.length = 3 := hxl
  have f0 : DataW.trod enc Tryd.prog w 0 spare held m 3 ((([v0, v1, v2] : List Value).drop 0).take (Tryd.prog.cellsOf 3)) = xs[0]? := hf 0 _ rfl
  have f1 : DataW.trod enc Tryd.prog w 0 spare held m 3 ((([v0, v1, v2] : List Value).drop 1).take (Tryd.prog.cellsOf 3)) = xs[1]? := hf 1 _ rfl
  have f2 : DataW.trod enc Tryd.prog w 0 spare held m 3 ((([v0, v1, v2] : List Value).drop 2).take (Tryd.prog.cellsOf 3)) = xs[2]? := hf 2 _ rfl
  rw [cl_int, List.getElem?_eq_getElem (by omega)] at f0 f1 f2
  obtain ⟨a, e0, _, w0⟩ := DataW.trod_int Tryd.underlying3 f0
  obtain ⟨b, e1, _, w1⟩ := DataW.trod_int Tryd.underlying3 f1
  obtain ⟨c, e2, _, w2⟩ := DataW.trod_int Tryd.underlying3 f2
  exact ⟨a, b, c, by simpa using e0, by simpa using e1, by simpa using e2, i64_in w0, i64_in w1, i64_in w2⟩
theorem slot_vals {n : Nat} {v0 v1 v2 v3 : Value} {y : DataW H × List MemPlace} (h : DataW.trod enc Tryd.prog w 0 spare held n 51 [v0, v1, v2, v3] = some y) :
    ∃ (t a b : Int) (g : Nat), v0 = .int .i64 t ∧ v1 = .int .i64 a ∧ v2 = .int .i64 b ∧ v3 = .int .u32 (g : Int) ∧ (-9223372036854775808 ≤ a ∧ a ≤ 9223372036854775807) ∧ (-9223372036854775808 ≤ b ∧ b ≤ 9223372036854775807) ∧ g ≤ 4294967295 := by
  obtain ⟨xs, m, _, _, _, hxl, hf⟩ := DataW.trod_struct Tryd.underlying51 h
  have hxl : xs.length = 3 := hxl
  have f0 : DataW.trod enc Tryd.prog w 0 spare held m 46 ((([v0, v1, v2, v3] : List Value).drop 0).take (Tryd.prog.cellsOf 46)) = xs[0]? := hf 0 _ rfl
  have f1 : DataW.trod enc Tryd.prog w 0 spare held m 48 ((([v0, v1, v2, v3] : List Value).drop 1).take (Tryd.prog.cellsOf 48)) = xs[1]? := hf 1 _ rfl
  have f2 : DataW.trod enc Tryd.prog w 0 spare held m 49 ((([v0, v1, v2, v3] : List Value).drop 3).take (Tryd.prog.cellsOf 49)) = xs[2]? := hf 2 _ rfl
  rw [cl_state, List.getElem?_eq_getElem (by omega)] at f0
  rw [cl_extent, List.getElem?_eq_getElem (by omega)] at f1
  rw [cl_u32, List.getElem?_eq_getElem (by omega)] at f2
  obtain ⟨t, e0, _, w0⟩ := DataW.trod_int Tryd.underlying46 f0
  obtain ⟨a, b, e1, e2, wa, wb⟩ := extent_vals f1
  obtain ⟨g, e3, _, w3⟩ := DataW.trod_int Tryd.underlying49 f2
  obtain ⟨g, rfl, hg⟩ := u32_in w3
  exact ⟨t, a, b, g, by simpa using e0, e1, e2, by simpa using e3, wa, wb, hg⟩
/-- What is known of exceptions that came in. -/
def EsIn (es : List (Int × Int)) : Prop := ∀ e ∈ es, (-9223372036854775808 ≤ e.1 ∧ e.1 ≤ 9223372036854775807) ∧ -9223372036854775808 ≤ e.2 ∧ e.2 ≤ 9223372036854775807
theorem view_ents {fuel : Nat} {v : Value} {x : DataW H × List MemPlace} (h : DataW.trod enc Tryd.prog w 0 spare held fuel 52 [v] = some x) :
    ∃ (a : Option Addr) (xs : List (Int × Int)) (c : Nat), v = .slice a xs.length c ∧ xs.length ≤ 9223372036854775807 ∧ EsIn xs ∧ Tb.REnts w a xs := by
  rcases open_slice Tryd.underlying52 h with ⟨h0, _⟩ | ⟨a, len, cap, m, n, D, Pl, hv, _, hlc, hcm, hm, _, hx⟩
  · injection h0 with h0
    exact ⟨none, [], 0, h0, Nat.zero_le _, fun e he => by simp at he, fun h => (h rfl).elim⟩
  · injection hv with hv
    have hlm : len ≤ m := by rw [hm]; split <;> omega
    rw [cl_ent] at hx
    by_cases hz : len = 0
    · subst hz
      exact ⟨some a, [], cap, hv, Nat.zero_le _, fun e he => by simp at he, fun h => (h rfl).elim⟩
    · obtain ⟨cs0, hc0, _⟩ := hx 0 (by omega)
      obtain ⟨_, _, hat0⟩ := World.cells?_some hc0
      have h0 := hat0 0 (by decide)
      have hl0 : 0 < cs0.length := by obtain ⟨_, hl, _⟩ := World.cells?_some hc0; omega
      rw [List.getElem?_eq_getElem hl0] at h0
      rw [show (a.add (0 * 2)).add 0 = a from rfl] at h0
      obtain ⟨b, off, rfl⟩ := plain_cell h0
      obtain ⟨X, hX⟩ := choose_lt (α := Int × Int) (n := m) (p := fun i x => (w.cell? ⟨b, off + i * 2, none⟩ = some (.int .i64 x.1) ∧ w.cell? ⟨b, off + i * 2 + 1, none⟩ = some (.int .i64 x.2)) ∧ (-9223372036854775808 ≤ x.1 ∧ x.1 ≤ 9223372036854775807) ∧ -9223372036854775808 ≤ x.2 ∧ x.2 ≤ 9223372036854775807) (fun i hi => by
        obtain ⟨cs, h1, h2⟩ := hx i hi
        rw [Go.WideShapes.add_plain] at h1
        obtain ⟨_, hl, hat⟩ := World.cells?_some h1
        match cs, hl with
        | [v0, v1], _ =>
          obtain ⟨p, q, rfl, rfl, wp', wq⟩ := ent_vals h2
          have g0 := hat 0 (by decide)
          have g1 := hat 1 (by decide)
          rw [Go.WideShapes.add_plain] at g0 g1
          exact ⟨(p, q), ⟨g0, g1⟩, wp', wq⟩)
      refine ⟨some ⟨b, off, none⟩, (List.range len).map X, cap, by rw [hv, List.length_map, List.length_range], by rw [List.length_map, List.length_range]; unfold maxLen at hcm; omega, fun e he => ?_, fun hn => ⟨b, off, rfl, lt_cell h0, fun i x hi => ?_⟩⟩
      · obtain ⟨i, hi, rfl⟩ := List.mem_map.1 he
        exact (hX i (by have := List.mem_range.1 hi; omega)).2
      · have hil : i < len := by have := (List.getElem?_eq_some_iff.1 hi).1; rwa [List.length_map, List.length_range] at this
        rw [List.getElem?_map, List.getElem?_range hil] at hi
        injection hi with hi
        rw [← hi]
        exact (hX i (by omega)).1
/-- What is known of a line that came in. -/
structure LnIn (w : World) (x : Ln) (ea : Option Addr) : Prop where
  wf : Wf x
  es : EsIn x.es
  len : x.es.length ≤ 9223372036854775807
  at_ : Tb.REnts w ea x.es
theorem line_vals {n : Nat} {cs : List Value} {y : DataW H × List MemPlace} (hl : cs.length = 8) (h : DataW.trod enc Tryd.prog w 0 spare held n 54 cs = some y) :
    ∃ x ea ec, cs = lcells x (.slice ea x.es.length ec) ∧ LnIn w x ea := by
  obtain ⟨xs, m, _, _, _, hxl, hf⟩ := DataW.trod_struct Tryd.underlying54 h
  match cs, hl with
  | [v0, v1, v2, v3, v4, v5, v6, v7], _ =>
    have f0 : DataW.trod enc Tryd.prog w 0 spare held m 3 ((([v0, v1, v2, v3, v4, v5, v6, v7] : List Value).drop 0).take (Tryd.prog.cellsOf 3)) = xs[0]? := hf 0 _ rfl
    have f1 : DataW.trod enc Tryd.prog w 0 spare held m 51 ((([v0, v1, v2, v3, v4, v5, v6, v7] : List Value).drop 1).take (Tryd.prog.cellsOf 51)) = xs[1]? := hf 1 _ rfl
    have f2 : DataW.trod enc Tryd.prog w 0 spare held m 3 ((([v0, v1, v2, v3, v4, v5, v6, v7] : List Value).drop 5).take (Tryd.prog.cellsOf 3)) = xs[2]? := hf 2 _ rfl
    have f3 : DataW.trod enc Tryd.prog w 0 spare held m 4 ((([v0, v1, v2, v3, v4, v5, v6, v7] : List Value).drop 6).take (Tryd.prog.cellsOf 4)) = xs[3]? := hf 3 _ rfl
    have f4 : DataW.trod enc Tryd.prog w 0 spare held m 52 ((([v0, v1, v2, v3, v4, v5, v6, v7] : List Value).drop 7).take (Tryd.prog.cellsOf 52)) = xs[4]? := hf 4 _ rfl
    have hxl : xs.length = 5 := hxl
    rw [cl_int, List.getElem?_eq_getElem (by omega)] at f0 f2
    rw [cl_slot, List.getElem?_eq_getElem (by omega)] at f1
    rw [cl_bool, List.getElem?_eq_getElem (by omega)] at f3
    rw [cl_ents, List.getElem?_eq_getElem (by omega)] at f4
    obtain ⟨id, e0, _, w0⟩ := DataW.trod_int Tryd.underlying3 f0
    obtain ⟨t, a, b, g, rfl, rfl, rfl, rfl, wa, wb, wg⟩ := slot_vals f1
    obtain ⟨rm, e2, _, w2⟩ := DataW.trod_int Tryd.underlying3 f2
    obtain ⟨iv, e3, _⟩ := DataW.trod_bool Tryd.underlying4 f3
    obtain ⟨ea, es, ec, e4, hlen, hes, hre⟩ := view_ents f4
    have e0 : v0 = .int .i64 id := by simpa using e0
    have e2 : v5 = .int .i64 rm := by simpa using e2
    have e3 : v6 = .bool iv := by simpa using e3
    refine ⟨⟨id, t, a, b, g, rm, iv, es⟩, ea, ec, ?_, ⟨⟨i64_in w0, wa, wb, i64_in w2, wg⟩, hes, hlen, hre⟩⟩
    rw [e0, e2, e3, e4]
    rfl
instance : Inhabited Ln := ⟨x0⟩
theorem view_lines {fuel : Nat} {v : Value} {x : DataW H × List MemPlace} (h : DataW.trod enc Tryd.prog w 0 spare held fuel 24 [v] = some x) :
    ∃ (a : Option Addr) (ls : List Ln) (c : Nat), v = .slice a ls.length c ∧ ls.length ≤ 9223372036854775807 ∧ (∀ x ∈ ls, Wf x ∧ EsIn x.es ∧ x.es.length ≤ 9223372036854775807) ∧ RLns w a ls := by
  rcases open_slice Tryd.underlying24 h with ⟨h0, _⟩ | ⟨a, len, cap, m, n, D, Pl, hv, _, hlc, hcm, hm, _, hx⟩
  · injection h0 with h0
    exact ⟨none, [], 0, h0, Nat.zero_le _, fun e he => by simp at he, fun h => (h rfl).elim⟩
  · injection hv with hv
    have hlm : len ≤ m := by rw [hm]; split <;> omega
    rw [cl_line] at hx
    by_cases hz : len = 0
    · subst hz
      exact ⟨some a, [], cap, hv, Nat.zero_le _, fun e he => by simp at he, fun h => (h rfl).elim⟩
    · obtain ⟨cs0, hc0, _⟩ := hx 0 (by omega)
      obtain ⟨_, _, hat0⟩ := World.cells?_some hc0
      have h0 := hat0 0 (by decide)
      have hl0 : 0 < cs0.length := by obtain ⟨_, hl, _⟩ := World.cells?_some hc0; omega
      rw [List.getElem?_eq_getElem hl0] at h0
      rw [show (a.add (0 * 8)).add 0 = a from rfl] at h0
      obtain ⟨b, off, rfl⟩ := plain_cell h0
      obtain ⟨X, hX⟩ := choose_lt (α := Ln × Option Addr × Nat) (n := m) (p := fun i x => w.rangeAt b (off + i * 8) (lcells x.1 (.slice x.2.1 x.1.es.length x.2.2)) ∧ LnIn w x.1 x.2.1) (fun i hi => by
        obtain ⟨cs, h1, h2⟩ := hx i hi
        rw [Go.WideShapes.add_plain] at h1
        obtain ⟨_, hl, hat⟩ := World.cells?_some h1
        obtain ⟨x, ea, ec, e, hin⟩ := line_vals hl h2
        refine ⟨(x, ea, ec), fun j v hj => ?_, hin⟩
        have hj8 : j < 8 := by have := (List.getElem?_eq_some_iff.1 hj).1; simpa [lcells] using this
        have := hat j hj8
        rw [Go.WideShapes.add_plain, e] at this
        rw [this]
        exact hj)
      refine ⟨some ⟨b, off, none⟩, (List.range len).map fun i => (X i).1, cap, by rw [hv, List.length_map, List.length_range], by rw [List.length_map, List.length_range]; unfold maxLen at hcm; omega, fun e he => ?_, fun hn => ⟨b, off, rfl, lt_cell h0, fun i x hi => ?_⟩⟩
      · obtain ⟨i, hi, rfl⟩ := List.mem_map.1 he
        have k := (hX i (by have := List.mem_range.1 hi; omega)).2
        exact ⟨k.wf, k.es, k.len⟩
      · have hil : i < len := by have := (List.getElem?_eq_some_iff.1 hi).1; rwa [List.length_map, List.length_range] at this
        rw [List.getElem?_map, List.getElem?_range hil] at hi
        injection hi with hi
        rw [← hi]
        have k := hX i (by omega)
        exact ⟨_, _, k.1, k.2.at_⟩
/-- What is known of a report that came in. -/
structure RpIn (w : World) (r : Rp) (a : Option Addr) : Prop where
  wr : Wr r
  len : r.ls.length ≤ 9223372036854775807
  es : ∀ x ∈ r.ls, x.es.length ≤ 9223372036854775807
  at_ : RLns w a r.ls
theorem report_open {r0 : Reach} {b0 : Nat} {v : Value} {d : DataW H} {p : List MemPlace} (hv : Value.okWide Tryd.prog w r0 b0 26 v) (h : DataW.Trod enc Tryd.prog w 0 spare held 26 v d p) :
    ∃ r a c, v = Rv r a c ∧ RpIn w r a := by
  obtain ⟨cs, rfl, hsz⟩ := okWide_struct Tryd.underlying26 hv
  obtain ⟨fuel, hf0⟩ := h
  have hl : cs.toList.length = 4 := by rw [Array.length_toList]; exact hsz.trans cl_report
  obtain ⟨l⟩ := cs
  have hl : l.length = 4 := hl
  match l, hl with
  | [v0, v1, v2, v3], _ =>
    have hf0 : DataW.trod enc Tryd.prog w 0 spare held fuel 26 [v0, v1, v2, v3] = some _ := hf0
    obtain ⟨ys, k, _, _, _, hyl, hf⟩ := DataW.trod_struct Tryd.underlying26 hf0
    have hyl : ys.length = 2 := hyl
    have f0 : DataW.trod enc Tryd.prog w 0 spare held k 23 ((([v0, v1, v2, v3] : List Value).drop 0).take (Tryd.prog.cellsOf 23)) = ys[0]? := hf 0 _ rfl
    have f1 : DataW.trod enc Tryd.prog w 0 spare held k 24 ((([v0, v1, v2, v3] : List Value).drop 3).take (Tryd.prog.cellsOf 24)) = ys[1]? := hf 1 _ rfl
    rw [cl_super, List.getElem?_eq_getElem (by omega)] at f0
    rw [cl_lines, List.getElem?_eq_getElem (by omega)] at f1
    obtain ⟨a, b, c, rfl, rfl, rfl, wa, wb, wc⟩ := super_vals f0
    obtain ⟨la, ls, lc, e3, hn, hw, hA⟩ := view_lines f1
    exact ⟨⟨a, b, c, ls⟩, la, lc, by rw [e3]; rfl, ⟨⟨wa, wb, wc, fun x hx => ⟨(hw x hx).1, (hw x hx).2.1⟩⟩, hn, fun x hx => (hw x hx).2.2, hA⟩⟩
end
end Pd
end Go.Proofs.YtheldnamllnkeaaDoor
