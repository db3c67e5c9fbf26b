/- What a statement's acts, and what is kept, give the walks. -/
import Derived.Test.YtodihhpeggoodaaDiskAct
import Derived.OpenShut
import Derived.Deep.Slices
import Derived.Deep.Fields
namespace Go.Proofs.Ytodihhpeggoodaa
namespace Dsk
open Go.RowKit Go.ChangeShapes Go.WideShapes Go.Deep
set_option linter.unusedVariables false

section
variable {H : Type} {enc : TypeId × Value → H} {w : World} {spare : Nat → Bool} {held : Bool}

theorem lt_of_cell {w : World} {a : Addr} {v : Value} (h : w.cell? a = some v) : a.block < w.heap.size := by
  unfold World.cell? at h
  by_cases hb : a.block < w.heap.size
  · exact hb
  · rw [Array.getElem?_eq_none (by omega)] at h
    simp at h
theorem plain_at {a : Addr} {v : Value} (h : w.cell? a = some v) : ∃ b off, a = ⟨b, off, none⟩ := by
  obtain ⟨b, off, spot⟩ := a
  have : spot = none := by simpa using World.cell?_spot h
  subst this
  exact ⟨b, off, rfl⟩

theorem view_bools {fuel : Nat} {v : Value} {x : DataW H × List MemPlace} (h : DataW.trod enc Try.prog w 0 spare held fuel 30 [v] = some x) :
    ∃ (ka : Option Addr) (ks : List Bool) (kc : Nat), v = .slice ka ks.length kc ∧ ks.length ≤ maxLen ∧ Kept w (fun k => w.heap.size ≤ k) ka ks := by
  rcases open_slice1 Try.underlying30 (by kernel_rfl) h with ⟨h0, _⟩ | ⟨a, len, cap, m, n, V, D, Pl, hv, _, hlc, hcm, hm, _, hx⟩
  · injection h0 with h0
    exact ⟨none, [], 0, h0, Nat.zero_le _, Kept.none _ _ _⟩
  · injection hv with hv
    have hlm : len ≤ m := by rw [hm]; split <;> omega
    obtain ⟨B, hB⟩ := choose_lt (α := Bool) (n := m) (p := fun i b => w.cell? (a.add i) = some (.bool b)) (fun i hi => by
      obtain ⟨h1, h2⟩ := hx i hi
      obtain ⟨b, hb, _⟩ := DataW.trod_bool Try.underlying4 h2
      injection hb with hb
      exact ⟨b, by rw [h1, hb]⟩)
    refine ⟨some a, (List.range len).map B, cap, ?_, ?_, fun hn => ?_⟩
    · rw [hv, List.length_map, List.length_range]
    · rw [List.length_map, List.length_range]; omega
    · rw [List.length_map, List.length_range] at hn
      have h0 := hB 0 (by omega)
      rw [show a.add 0 = a from rfl] at h0
      obtain ⟨b, off, rfl⟩ := plain_at h0
      refine ⟨b, off, rfl, ?_, lt_of_cell h0, fun i hi => ?_⟩
      · have := lt_of_cell h0; intro c; have c : w.heap.size ≤ b := c; exact absurd this (by show ¬ b < _; omega)
      · rw [List.length_map, List.length_range] at hi
        rw [← Go.WideShapes.add_plain, hB i (by omega)]
        simp [hi]

/-- One act in memory. -/
structure ActAt (w : World) (b off : Nat) (x : Ac) : Prop where
  c0 : w.cell? ⟨b, off, none⟩ = some (.int .u8 (x.k : Int))
  c1 : w.cell? ⟨b, off + 1, none⟩ = some (.int .i64 x.a)
  c2 : w.cell? ⟨b, off + 2, none⟩ = some (.int .i64 x.n)
  c3 : w.cell? ⟨b, off + 3, none⟩ = some (.string (Om.B x.d))
  c4 : w.cell? ⟨b, off + 4, none⟩ = some (.slice x.ka x.ks.length x.kc)
  k : x.k < 256
  alo : -9223372036854775808 ≤ x.a
  ahi : x.a ≤ 9223372036854775807
  nlo : -9223372036854775808 ≤ x.n
  nhi : x.n ≤ 9223372036854775807
  d : x.d.length ≤ 9223372036854775807
  ks : x.ks.length ≤ 9223372036854775807
  kept : Kept w (fun k => w.heap.size ≤ k) x.ka x.ks
instance : Inhabited Ac := ⟨⟨0, 0, 0, [], [], none, 0⟩⟩
/-- Acts in memory. -/
def Acts (w : World) (a : Option Addr) (xs : List Ac) : Prop := 0 < xs.length → ∃ b off, a = some ⟨b, off, none⟩ ∧ b < w.heap.size ∧ ∀ i (h : i < xs.length), ActAt w b (off + i * 5) xs[i]

theorem i64_wf {n : Int} (h : (Lit.int .i64 n).wf = true) : -9223372036854775808 ≤ n ∧ n ≤ 9223372036854775807 := by
  simp [Lit.wf, IntKind.min, IntKind.max, IntKind.signed, IntKind.bits] at h
  omega
theorem u8_wf {n : Int} (h : (Lit.int .u8 n).wf = true) : ∃ m : Nat, n = (m : Int) ∧ m < 256 := by
  simp [Lit.wf, IntKind.min, IntKind.max, IntKind.signed, IntKind.bits] at h
  exact ⟨n.toNat, by omega, by omega⟩

theorem cells_u8 : Try.prog.cellsOf 5 = 1 := by kernel_rfl
theorem cells_int : Try.prog.cellsOf 3 = 1 := by kernel_rfl
theorem cells_str : Try.prog.cellsOf 9 = 1 := by kernel_rfl
theorem cells_bools : Try.prog.cellsOf 30 = 1 := by kernel_rfl
theorem cells_act : Try.prog.cellsOf 32 = 5 := by kernel_rfl
theorem act_open {n b off : Nat} {cs : List Value} {y : DataW H × List MemPlace} (hc : w.cells? 0 ⟨b, off, none⟩ 5 = some cs) (h : DataW.trod enc Try.prog w 0 spare held n 32 cs = some y) : ∃ x, ActAt w b off x := by
  obtain ⟨_, hl, hat⟩ := World.cells?_some hc
  obtain ⟨xs, m, _, _, _, hxl, hf⟩ := DataW.trod_struct Try.underlying32 h
  match cs, hl with
  | [v0, v1, v2, v3, v4], _ =>
    have g0 := hat 0 (by decide)
    have g1 := hat 1 (by decide)
    have g2 := hat 2 (by decide)
    have g3 := hat 3 (by decide)
    have g4 := hat 4 (by decide)
    have f0 : DataW.trod enc Try.prog w 0 spare held m 5 ((([v0, v1, v2, v3, v4] : List Value).drop 0).take (Try.prog.cellsOf 5)) = xs[0]? := hf 0 _ rfl
    have f1 : DataW.trod enc Try.prog w 0 spare held m 3 ((([v0, v1, v2, v3, v4] : List Value).drop 1).take (Try.prog.cellsOf 3)) = xs[1]? := hf 1 _ rfl
    have f2 : DataW.trod enc Try.prog w 0 spare held m 3 ((([v0, v1, v2, v3, v4] : List Value).drop 2).take (Try.prog.cellsOf 3)) = xs[2]? := hf 2 _ rfl
    have f3 : DataW.trod enc Try.prog w 0 spare held m 9 ((([v0, v1, v2, v3, v4] : List Value).drop 3).take (Try.prog.cellsOf 9)) = xs[3]? := hf 3 _ rfl
    have f4 : DataW.trod enc Try.prog w 0 spare held m 30 ((([v0, v1, v2, v3, v4] : List Value).drop 4).take (Try.prog.cellsOf 30)) = xs[4]? := hf 4 _ rfl
    have hxl : xs.length = 5 := hxl
    rw [cells_u8, List.getElem?_eq_getElem (by omega)] at f0
    rw [cells_int, List.getElem?_eq_getElem (by omega)] at f1 f2
    rw [cells_str, List.getElem?_eq_getElem (by omega)] at f3
    rw [cells_bools, List.getElem?_eq_getElem (by omega)] at f4
    obtain ⟨k, e0, _, w0⟩ := DataW.trod_int Try.underlying5 f0
    obtain ⟨a, e1, _, w1⟩ := DataW.trod_int Try.underlying3 f1
    obtain ⟨q, e2, _, w2⟩ := DataW.trod_int Try.underlying3 f2
    obtain ⟨s, e3, _, w3⟩ := DataW.trod_string Try.underlying9 f3
    obtain ⟨ka, ks, kc, e4, w4, hk⟩ := view_bools f4
    have e0 : v0 = .int .u8 k := by simpa using e0
    have e1 : v1 = .int .i64 a := by simpa using e1
    have e2 : v2 = .int .i64 q := by simpa using e2
    have e3 : v3 = .string s := by simpa using e3
    obtain ⟨k, rfl, hkb⟩ := u8_wf w0
    obtain ⟨l1, l2⟩ := i64_wf w1
    obtain ⟨l3, l4⟩ := i64_wf w2
    refine ⟨⟨k, a, q, Om.L s, ks, ka, kc⟩, ⟨?_, ?_, ?_, ?_, ?_, hkb, l1, l2, l3, l4, ?_, ?_, hk⟩⟩
    · rw [← e0]; exact g0
    · rw [← e1]; exact g1
    · rw [← e2]; exact g2
    · show _ = some (Value.string (Om.B (Om.L s))); rw [Om.B_L, ← e3]; exact g3
    · rw [← e4]; exact g4
    · show (Om.L s).length ≤ _; rw [Om.L_length]; unfold maxLen at w3; exact w3
    · show ks.length ≤ _; unfold maxLen at w4; exact w4

theorem view_acts {fuel : Nat} {v : Value} {x : DataW H × List MemPlace} (h : DataW.trod enc Try.prog w 0 spare held fuel 22 [v] = some x) :
    ∃ (a : Option Addr) (xs : List Ac) (c : Nat), v = .slice a xs.length c ∧ xs.length ≤ 9223372036854775807 ∧ Acts w a xs := by
  rcases open_slice Try.underlying22 h with ⟨h0, _⟩ | ⟨a, len, cap, m, n, D, Pl, hv, _, hlc, hcm, hm, _, hx⟩
  · injection h0 with h0
    exact ⟨none, [], 0, h0, Nat.zero_le _, fun h => absurd h (by simp)⟩
  · injection hv with hv
    have hlm : len ≤ m := by rw [hm]; split <;> omega
    rw [cells_act] at hx
    by_cases hz : len = 0
    · subst hz
      exact ⟨some a, [], cap, hv, Nat.zero_le _, fun h => absurd h (by simp)⟩
    · obtain ⟨cs0, hc0, _⟩ := hx 0 (by omega)
      obtain ⟨_, _, hat0⟩ := World.cells?_some hc0
      have h0 := hat0 0 (by decide)
      have hl0 : 0 < cs0.length := by obtain ⟨_, hl, _⟩ := World.cells?_some hc0; omega
      rw [List.getElem?_eq_getElem hl0] at h0
      rw [show (a.add (0 * 5)).add 0 = a from rfl] at h0
      obtain ⟨b, off, rfl⟩ := plain_at h0
      obtain ⟨X, hX⟩ := choose_lt (α := Ac) (n := m) (p := fun i x => ActAt w b (off + i * 5) x) (fun i hi => by
        obtain ⟨cs, h1, h2⟩ := hx i hi
        rw [Go.WideShapes.add_plain] at h1
        exact act_open h1 h2)
      refine ⟨some ⟨b, off, none⟩, (List.range len).map X, cap, by rw [hv, List.length_map, List.length_range], by rw [List.length_map, List.length_range]; unfold maxLen at hcm; omega, fun hn => ⟨b, off, rfl, lt_of_cell h0, fun i hi => ?_⟩⟩
      rw [List.length_map, List.length_range] at hi
      rw [List.getElem_map, List.getElem_range]
      exact hX i (by omega)
end
end Dsk
end Go.Proofs.Ytodihhpeggoodaa
