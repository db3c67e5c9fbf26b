/- Part 21 of the contracts and of the plain mathematics that the proof of the law rests on: StoArgs, GeomRRight, LayoutRS, SuperRRight, StoRow, StoNew, StoR5. -/
import Derived.Test.YtbmabcddciibfaaGreatWr01
import Derived.Test.YtbmabcddciibfaaGreatWr03
import Derived.Test.YtbmabcddciibfaaGreatWr05
import Derived.Test.YtbmabcddciibfaaGreatWr08
import Derived.Test.YtbmabcddciibfaaGreatWr09
import Derived.Test.YtbmabcddciibfaaGreatWr14
import Derived.Test.YtbmabcddciibfaaGreatWr15
import Derived.Test.YtbmabcddciibfaaGreatWr17
import Derived.Test.YtbmabcddciibfaaGreatWr20
import Derived.WalkLawsBesides
import Derived.Laws.ResultCell
import Derived.LoopTactic
namespace Go.Proofs.YtbmabcddciibfaaGreat
namespace So
open Go.RowKit Go.ChangeShapes Go.WideShapes Go.Deep
set_option linter.unusedVariables false
set_option maxRecDepth 100000
structure Ac where
  k : Nat
  o : Int
  f : Int
  n : Int
  d : List UInt8
  cs : List (Int × List UInt8)
  rm : List Int
  kp : List Bool
structure Al where
  ca : Option Addr
  cc : Nat
  ra : Option Addr
  rc : Nat
  ka : Option Addr
  kc : Nat
instance : Inhabited Ac := ⟨⟨0, 0, 0, 0, [], [], [], []⟩⟩
instance : Inhabited Al := ⟨⟨none, 0, none, 0, none, 0⟩⟩
def Ac.vals (x : Ac) (y : Al) : List Value := [.int .u8 (x.k : Int), .int .i64 x.o, .int .i64 x.f, .int .i64 x.n, .string (Om.B x.d), .slice y.ca x.cs.length y.cc, .slice y.ra x.rm.length y.rc, .slice y.ka x.kp.length y.kc]
structure AcIn (w : World) (x : Ac) (y : Al) : Prop where
  k : x.k < 256
  o : (Lit.int .i64 x.o).wf = true
  f : (Lit.int .i64 x.f).wf = true
  n : (Lit.int .i64 x.n).wf = true
  d : x.d.length ≤ 9223372036854775807
  cs : x.cs.length ≤ 9223372036854775807
  csd : ∀ c ∈ x.cs, (Lit.int .i64 c.1).wf = true ∧ c.2.length ≤ 9223372036854775807
  cr : RCop w y.ca x.cs
  rm : x.rm.length ≤ 9223372036854775807
  rmd : ∀ c ∈ x.rm, (Lit.int .i64 c).wf = true
  rr : Tb.Rd w y.ra x.rm
  kp : x.kp.length ≤ 9223372036854775807
  kr : Dsk.Kept w (fun k => w.heap.size ≤ k) y.ka x.kp
section
variable {H : Type} {enc : TypeId × Value → H} {w : World} {spare : Nat → Bool} {held : Bool}
theorem cells_copy14 : Tryz.prog.cellsOf 79 = 2 := by kernel_rfl
theorem copy_open {n b off : Nat} {cs : List Value} {y : DataW H × List MemPlace} (hc : w.cells? 0 ⟨b, off, none⟩ 2 = some cs) (h : DataW.trod enc Tryz.prog w 0 spare held n 79 cs = some y) :
    ∃ x : Int × List UInt8, (w.cell? ⟨b, off, none⟩ = some (.int .i64 x.1) ∧ w.cell? ⟨b, off + 1, none⟩ = some (.string (Om.B x.2))) ∧ (Lit.int .i64 x.1).wf = true ∧ x.2.length ≤ 9223372036854775807 := by
  obtain ⟨_, hl, hat⟩ := World.cells?_some hc
  obtain ⟨xs, m, _, _, _, hxl, hf⟩ := DataW.trod_struct Tryz.underlying79 h
  match cs, hl with
  | [v0, v1], _ =>
    have g0 := hat 0 (by decide)
    have g1 := hat 1 (by decide)
    have f0 : DataW.trod enc Tryz.prog w 0 spare held m 3 ((([v0, v1] : List Value).drop 0).take (Tryz.prog.cellsOf 3)) = xs[0]? := hf 0 _ rfl
    have f1 : DataW.trod enc Tryz.prog w 0 spare held m 9 ((([v0, v1] : List Value).drop 1).take (Tryz.prog.cellsOf 9)) = xs[1]? := hf 1 _ rfl
    have hxl : xs.length = 2 := hxl
    rw [Dsk.cells_int, List.getElem?_eq_getElem (by omega)] at f0
    rw [Dsk.cells_str, List.getElem?_eq_getElem (by omega)] at f1
    obtain ⟨a, e0, _, w0⟩ := DataW.trod_int Tryz.underlying3 f0
    obtain ⟨s, e1, _, w1⟩ := DataW.trod_string Tryz.underlying9 f1
    have e0 : v0 = .int .i64 a := by simpa using e0
    have e1 : v1 = .string s := by simpa using e1
    refine ⟨(a, Om.L s), ⟨by rw [← e0]; exact g0, ?_⟩, w0, ?_⟩
    · show _ = some (Value.string (Om.B (Om.L s))); rw [Om.B_L, ← e1]; exact g1
    · show (Om.L s).length ≤ _; rw [Om.L_length]; unfold maxLen at w1; exact w1
theorem view_copies {fuel : Nat} {v : Value} {x : DataW H × List MemPlace} (h : DataW.trod enc Tryz.prog w 0 spare held fuel 30 [v] = some x) :
    ∃ (a : Option Addr) (xs : List (Int × List UInt8)) (c : Nat), v = .slice a xs.length c ∧ xs.length ≤ 9223372036854775807 ∧ RCop w a xs ∧ ∀ c ∈ xs, (Lit.int .i64 c.1).wf = true ∧ c.2.length ≤ 9223372036854775807 := by
  rcases open_slice Tryz.underlying30 h with ⟨h0, _⟩ | ⟨a, len, cap, m, n, D, Pl, hv, _, hlc, hcm, hm, _, hx⟩
  · injection h0 with h0
    exact ⟨none, [], 0, h0, Nat.zero_le _, fun h => (h rfl).elim, fun c hc => by cases hc⟩
  · injection hv with hv
    have hlm : len ≤ m := by rw [hm]; split <;> omega
    rw [cells_copy14] at hx
    by_cases hz : len = 0
    · subst hz
      exact ⟨some a, [], cap, hv, Nat.zero_le _, fun h => (h rfl).elim, fun c hc => by cases hc⟩
    · obtain ⟨cs0, hc0, _⟩ := hx 0 (by omega)
      obtain ⟨_, _, hat0⟩ := World.cells?_some hc0
      have h0 := hat0 0 (by decide)
      have hl0 : 0 < cs0.length := by obtain ⟨_, hl, _⟩ := World.cells?_some hc0; omega
      rw [List.getElem?_eq_getElem hl0] at h0
      rw [show (a.add (0 * 2)).add 0 = a from rfl] at h0
      obtain ⟨b, off, rfl⟩ := Dsk.plain_at h0
      obtain ⟨X, hX⟩ := choose_lt (α := Int × List UInt8) (n := m) (p := fun i x => (w.cell? ⟨b, off + i * 2, none⟩ = some (.int .i64 x.1) ∧ w.cell? ⟨b, off + i * 2 + 1, none⟩ = some (.string (Om.B x.2))) ∧ (Lit.int .i64 x.1).wf = true ∧ x.2.length ≤ 9223372036854775807) (fun i hi => by
        obtain ⟨cs, h1, h2⟩ := hx i hi
        rw [Go.WideShapes.add_plain] at h1
        exact copy_open h1 h2)
      refine ⟨some ⟨b, off, none⟩, (List.range len).map X, cap, by rw [hv, List.length_map, List.length_range], by rw [List.length_map, List.length_range]; unfold maxLen at hcm; omega, fun hn => ⟨b, off, rfl, Dsk.lt_of_cell h0, fun i x hi => ?_⟩, fun c hc => ?_⟩
      · have hil : i < len := by have := (List.getElem?_eq_some_iff.1 hi).1; rwa [List.length_map, List.length_range] at this
        rw [List.getElem?_map, List.getElem?_range hil] at hi
        injection hi with hi
        rw [← hi]
        exact (hX i (by omega)).1
      · obtain ⟨i, hi, rfl⟩ := List.mem_map.1 hc
        exact (hX i (by have := List.mem_range.1 hi; omega)).2
theorem cells_act14 : Tryz.prog.cellsOf 34 = 8 := by kernel_rfl
theorem cells_copies14 : Tryz.prog.cellsOf 30 = 1 := by kernel_rfl
theorem cells_nums14 : Tryz.prog.cellsOf 31 = 1 := by kernel_rfl
theorem act_vals {n : Nat} {cs : List Value} {y : DataW H × List MemPlace} (hl : cs.length = 8) (h : DataW.trod enc Tryz.prog w 0 spare held n 34 cs = some y) : ∃ x l, cs = Ac.vals x l ∧ AcIn w x l := by
  obtain ⟨xs, m, _, _, _, hxl, hf⟩ := DataW.trod_struct Tryz.underlying34 h
  match cs, hl with
  | [v0, v1, v2, v3, v4, v5, v6, v7], _ =>
    have f0 : DataW.trod enc Tryz.prog w 0 spare held m 5 ((([v0, v1, v2, v3, v4, v5, v6, v7] : List Value).drop 0).take (Tryz.prog.cellsOf 5)) = xs[0]? := hf 0 _ rfl
    have f1 : DataW.trod enc Tryz.prog w 0 spare held m 3 ((([v0, v1, v2, v3, v4, v5, v6, v7] : List Value).drop 1).take (Tryz.prog.cellsOf 3)) = xs[1]? := hf 1 _ rfl
    have f2 : DataW.trod enc Tryz.prog w 0 spare held m 3 ((([v0, v1, v2, v3, v4, v5, v6, v7] : List Value).drop 2).take (Tryz.prog.cellsOf 3)) = xs[2]? := hf 2 _ rfl
    have f3 : DataW.trod enc Tryz.prog w 0 spare held m 3 ((([v0, v1, v2, v3, v4, v5, v6, v7] : List Value).drop 3).take (Tryz.prog.cellsOf 3)) = xs[3]? := hf 3 _ rfl
    have f4 : DataW.trod enc Tryz.prog w 0 spare held m 9 ((([v0, v1, v2, v3, v4, v5, v6, v7] : List Value).drop 4).take (Tryz.prog.cellsOf 9)) = xs[4]? := hf 4 _ rfl
    have f5 : DataW.trod enc Tryz.prog w 0 spare held m 30 ((([v0, v1, v2, v3, v4, v5, v6, v7] : List Value).drop 5).take (Tryz.prog.cellsOf 30)) = xs[5]? := hf 5 _ rfl
    have f6 : DataW.trod enc Tryz.prog w 0 spare held m 31 ((([v0, v1, v2, v3, v4, v5, v6, v7] : List Value).drop 6).take (Tryz.prog.cellsOf 31)) = xs[6]? := hf 6 _ rfl
    have f7 : DataW.trod enc Tryz.prog w 0 spare held m 32 ((([v0, v1, v2, v3, v4, v5, v6, v7] : List Value).drop 7).take (Tryz.prog.cellsOf 32)) = xs[7]? := hf 7 _ rfl
    have hxl : xs.length = 8 := hxl
    rw [Dsk.cells_u8, List.getElem?_eq_getElem (by omega)] at f0
    rw [Dsk.cells_int, List.getElem?_eq_getElem (by omega)] at f1 f2 f3
    rw [Dsk.cells_str, List.getElem?_eq_getElem (by omega)] at f4
    rw [cells_copies14, List.getElem?_eq_getElem (by omega)] at f5
    rw [cells_nums14, List.getElem?_eq_getElem (by omega)] at f6
    rw [Dsk.cells_bools, List.getElem?_eq_getElem (by omega)] at f7
    obtain ⟨k, e0, _, w0⟩ := DataW.trod_int Tryz.underlying5 f0
    obtain ⟨o, e1, _, w1⟩ := DataW.trod_int Tryz.underlying3 f1
    obtain ⟨f, e2, _, w2⟩ := DataW.trod_int Tryz.underlying3 f2
    obtain ⟨n, e3, _, w3⟩ := DataW.trod_int Tryz.underlying3 f3
    obtain ⟨s, e4, _, w4⟩ := DataW.trod_string Tryz.underlying9 f4
    obtain ⟨ca, cl, cc, e5, w5, hr5, hd5⟩ := view_copies f5
    obtain ⟨ra, rl, rc, e6, w6, hn6⟩ := Tb.view_nums f6
    obtain ⟨ka, ks, kc, e7, w7, hk⟩ := Dsk.view_bools f7
    have e0 : v0 = .int .u8 k := by simpa using e0
    have e1 : v1 = .int .i64 o := by simpa using e1
    have e2 : v2 = .int .i64 f := by simpa using e2
    have e3 : v3 = .int .i64 n := by simpa using e3
    have e4 : v4 = .string s := by simpa using e4
    obtain ⟨k, rfl, hkb⟩ := Dsk.u8_wf w0
    refine ⟨⟨k, o, f, n, Om.L s, cl, rl, ks⟩, ⟨ca, cc, ra, rc, ka, kc⟩, ?_, ⟨hkb, w1, w2, w3, ?_, w5, hd5, hr5, ?_, hn6.wf, hn6.row, ?_, hk⟩⟩
    · rw [e0, e1, e2, e3, e4, e5, e6, e7]
      unfold Ac.vals
      rw [Om.B_L]
    · show (Om.L s).length ≤ _; rw [Om.L_length]; unfold maxLen at w4; exact w4
    · unfold maxLen at w6; exact w6
    · unfold maxLen at w7; exact w7
def Acts (w : World) (a : Option Addr) (xs : List (Ac × Al)) : Prop := xs ≠ [] → ∃ b off, a = some ⟨b, off, none⟩ ∧ b < w.heap.size ∧ ∀ i x, xs[i]? = some x → (∀ j v, (x.1.vals x.2)[j]? = some v → w.cell? ⟨b, off + i * 8 + j, none⟩ = some v) ∧ AcIn w x.1 x.2
theorem view_acts {fuel : Nat} {v : Value} {x : DataW H × List MemPlace} (h : DataW.trod enc Tryz.prog w 0 spare held fuel 27 [v] = some x) :
    ∃ (a : Option Addr) (xs : List (Ac × Al)) (c : Nat), v = .slice a xs.length c ∧ xs.length ≤ 9223372036854775807 ∧ Acts w a xs := by
  rcases open_slice Tryz.underlying27 h with ⟨h0, _⟩ | ⟨a, len, cap, m, n, D, Pl, hv, _, hlc, hcm, hm, _, hx⟩
  · injection h0 with h0
    exact ⟨none, [], 0, h0, Nat.zero_le _, fun h => (h rfl).elim⟩
  · injection hv with hv
    have hlm : len ≤ m := by rw [hm]; split <;> omega
    rw [cells_act14] at hx
    by_cases hz : len = 0
    · subst hz
      exact ⟨some a, [], cap, hv, Nat.zero_le _, fun h => (h rfl).elim⟩
    · obtain ⟨cs0, hc0, _⟩ := hx 0 (by omega)
      obtain ⟨_, _, hat0⟩ := World.cells?_some hc0
      have h0 := hat0 0 (by decide)
      have hl0 : 0 < cs0.length := by obtain ⟨_, hl, _⟩ := World.cells?_some hc0; omega
      rw [List.getElem?_eq_getElem hl0] at h0
      rw [show (a.add (0 * 8)).add 0 = a from rfl] at h0
      obtain ⟨b, off, rfl⟩ := Dsk.plain_at h0
      obtain ⟨X, hX⟩ := choose_lt (α := Ac × Al) (n := m) (p := fun i x => (∀ j v, (x.1.vals x.2)[j]? = some v → w.cell? ⟨b, off + i * 8 + j, none⟩ = some v) ∧ AcIn w x.1 x.2) (fun i hi => by
        obtain ⟨cs, h1, h2⟩ := hx i hi
        rw [Go.WideShapes.add_plain] at h1
        obtain ⟨_, hl, hat⟩ := World.cells?_some h1
        obtain ⟨x, l, e, hin⟩ := act_vals hl h2
        refine ⟨(x, l), fun j v hj => ?_, hin⟩
        have hj8 : j < 8 := by have := (List.getElem?_eq_some_iff.1 hj).1; simpa [Ac.vals] using this
        have := hat j hj8
        rw [Go.WideShapes.add_plain, e] at this
        rw [this]
        exact hj)
      refine ⟨some ⟨b, off, none⟩, (List.range len).map X, cap, by rw [hv, List.length_map, List.length_range], by rw [List.length_map, List.length_range]; unfold maxLen at hcm; omega, fun hn => ⟨b, off, rfl, Dsk.lt_of_cell h0, fun i x hi => ?_⟩⟩
      have hil : i < len := by have := (List.getElem?_eq_some_iff.1 hi).1; rwa [List.length_map, List.length_range] at this
      rw [List.getElem?_map, List.getElem?_range hil] at hi
      injection hi with hi
      rw [← hi]
      exact hX i (by omega)
end
end So
end Go.Proofs.YtbmabcddciibfaaGreat
namespace Go.Proofs.YtbmabcddciibfaaGreat
namespace Geo
open Go.RowKit
set_option linter.unusedVariables false
theorem rright_any (o c : Int) (w : World) : Calls Tryz.prog 94 #[.int .i64 o, .int .i64 c] w fun e w' => e = .returned (.bool (Em.rightB o c)) ∧ w = w' := by
  by_cases h1 : 1 ≤ o
  · by_cases h2 : o ≤ 1048576
    · by_cases h3 : 1 ≤ c
      · have hr : Em.rightB o c = decide (c ≤ 128) := by unfold Em.rightB; simp [h1, h2, h3]
        have HR := Lib.hid hr
        clear hr
        go_enter Tryz.func94, Tryz.ntmps94
        go_wp2_with fail
        go_ret
        exact ⟨by rw [HR.out]; rfl, rfl⟩
      · have hr : Em.rightB o c = false := by unfold Em.rightB; simp [h1, h2, h3]
        have HR := Lib.hid hr
        clear hr
        have hd : decide (1 ≤ c) = false := by simpa using h3
        go_enter Tryz.func94, Tryz.ntmps94
        go_wp2_with fail
        go_ret
        exact ⟨by rw [HR.out]; rfl, rfl⟩
    · have hr : Em.rightB o c = false := by unfold Em.rightB; simp [h1, h2]
      have HR := Lib.hid hr
      clear hr
      have hd : decide (o ≤ 1048576) = false := by simpa using h2
      go_enter Tryz.func94, Tryz.ntmps94
      go_wp2_with fail
      go_ret
      exact ⟨by rw [HR.out]; rfl, rfl⟩
  · have hr : Em.rightB o c = false := by unfold Em.rightB; simp [h1]
    have HR := Lib.hid hr
    clear hr
    have hd : decide (1 ≤ o) = false := by simpa using h1
    go_enter Tryz.func94, Tryz.ntmps94
    go_wp2_with fail
    go_ret
    exact ⟨by rw [HR.out]; rfl, rfl⟩
end Geo
end Go.Proofs.YtbmabcddciibfaaGreat
namespace Go.Proofs.YtbmabcddciibfaaGreat
open Go.RowKit
set_option maxRecDepth 100000
set_option linter.unusedVariables false
theorem rlstores_ok (a n g : Int) (w : World) (h : Um.okU a n g = true) : Calls Tryz.prog 50 #[.agg #[.int .i64 a, .int .i64 n, .int .i64 g]] w fun e w' => e = .returned (.agg #[.int .i64 (17 + n), .int .i64 (a - (17 + n))]) ∧ Below w.heap.size w w' := by
  obtain ⟨h1, h2, h3, h4, h5, h6⟩ := Um.okU_small h
  have e1 : IntKind.i64.wrap (17 + n) = 17 + n := IntWalk.i64_in _ (by omega)
  have e2 : IntKind.i64.wrap (a - 17) = a - 17 := IntWalk.i64_in _ (by omega)
  have e3 : IntKind.i64.wrap (a - 17 - n) = a - 17 - n := IntWalk.i64_in _ (by omega)
  have E4 := Lib.hid (show a - (17 + n) = a - 17 - n by omega)
  obtain ⟨W0, hW0⟩ : ∃ W0, (w.alloc (.cells #[.int .i64 a, .int .i64 n, .int .i64 g] 23)).alloc (.cells #[.int .i64 0, .int .i64 0] 25) = W0 := ⟨_, rfl⟩
  have hx0 := ux_alloc w a n g 23
  have hn := heap_alloc_new (w.alloc (.cells #[.int .i64 a, .int .i64 n, .int .i64 g] 23)) (.cells #[.int .i64 0, .int .i64 0] 25)
  rw [show (w.alloc (.cells #[.int .i64 a, .int .i64 n, .int .i64 g] 23)).heap.size = w.heap.size + 1 by simp] at hn
  have hx := hx0.next ((Below.refl _ _).alloc (Nat.le_refl _) (.cells #[.int .i64 0, .int .i64 0] 25))
  have hB : Below w.heap.size w ((w.alloc (.cells #[.int .i64 a, .int .i64 n, .int .i64 g] 23)).alloc (.cells #[.int .i64 0, .int .i64 0] 25)) := ((Below.refl _ w).alloc (Nat.le_refl _) _).alloc (by simp) _
  rw [hW0] at hn hx hB
  have HB := Lib.hid hB
  have R1 := Lib.hid hn
  obtain ⟨z0, z1, zf⟩ := duo_cells hn
  obtain ⟨_, a0, a1, a2⟩ := hx
  clear hB hn hx0 h h1 h2 h3 h4 h5 h6
  go_enter Tryz.func50, Tryz.ntmps50
  go_wp2_with fail
  clear hW0
  go_wp2_with fail
  refine bodyPost_ret (results_cell_row (p := 2) (ty := 25) rfl _ _ (w.heap.size + 1) 25 _ (0, 0) _ rfl (duo_set R1.out _ _) Tryz.underlying25 rfl extent_info) rfl ⟨?_, ?_⟩
  · rw [E4.out]
  · exact below_duo HB.out (by omega) _ _
end Go.Proofs.YtbmabcddciibfaaGreat
namespace Go.Proofs.YtbmabcddciibfaaGreat
open Go.RowKit
set_option maxRecDepth 100000
set_option linter.unusedVariables false
theorem ruright_any (a n g : Int) (w : World) : Calls Tryz.prog 32 #[Uv a n g] w fun e w' => e = .returned (.bool (Um.okU a n g)) ∧ Below w.heap.size w w' := by
  unfold Uv
  have HB : Hid (Below w.heap.size w (w.alloc (.cells #[.int .i64 a, .int .i64 n, .int .i64 g] 23))) := (Below.refl _ w).alloc (Nat.le_refl _) _
  by_cases h0 : 1 ≤ n
  · have d0 : decide (1 ≤ n) = true := by simpa using h0
    by_cases h1 : n ≤ 1048576
    · have d1 : decide (n ≤ 1048576) = true := by simpa using h1
      by_cases h2 : 1 ≤ g
      · have d2 : decide (1 ≤ g) = true := by simpa using h2
        by_cases h3 : g ≤ 128
        · have d3 : decide (g ≤ 128) = true := by simpa using h3
          by_cases h4 : a ≤ 1048576
          · have d4 : decide (a ≤ 1048576) = true := by simpa using h4
            have e1 : IntKind.i64.wrap (n + 17) = n + 17 := IntWalk.i64_in _ (by omega)
            have hr : Um.okU a n g = decide (n + 17 ≤ a) := by unfold Um.okU Em.rightB; rw [d0, d1, d2, d3, d4]; simp
            have HR := Lib.hid hr
            clear hr h0 h1 h2 h3 h4
            go_enter Tryz.func32, Tryz.ntmps32
            go_wp2_with fail
            go_ret
            exact ⟨by rw [HR.out]; rfl, HB.out⟩
          · have d4 : decide (a ≤ 1048576) = false := by simpa using h4
            have hr : Um.okU a n g = false := by unfold Um.okU Em.rightB; rw [d4]; simp
            have HR := Lib.hid hr
            clear hr h0 h1 h2 h3 h4
            go_enter Tryz.func32, Tryz.ntmps32
            go_wp2_with fail
            go_ret
            exact ⟨by rw [HR.out]; rfl, HB.out⟩
        · have d3 : decide (g ≤ 128) = false := by simpa using h3
          have hr : Um.okU a n g = false := by unfold Um.okU Em.rightB; rw [d3]; simp
          have HR := Lib.hid hr
          clear hr h0 h1 h2 h3
          go_enter Tryz.func32, Tryz.ntmps32
          go_wp2_with fail
          go_ret
          exact ⟨by rw [HR.out]; rfl, HB.out⟩
      · have d2 : decide (1 ≤ g) = false := by simpa using h2
        have hr : Um.okU a n g = false := by unfold Um.okU Em.rightB; rw [d2]; simp
        have HR := Lib.hid hr
        clear hr h0 h1 h2
        go_enter Tryz.func32, Tryz.ntmps32
        go_wp2_with fail
        go_ret
        exact ⟨by rw [HR.out]; rfl, HB.out⟩
    · have d1 : decide (n ≤ 1048576) = false := by simpa using h1
      have hr : Um.okU a n g = false := by unfold Um.okU Em.rightB; rw [d1]; simp
      have HR := Lib.hid hr
      clear hr h0 h1
      go_enter Tryz.func32, Tryz.ntmps32
      go_wp2_with fail
      go_ret
      exact ⟨by rw [HR.out]; rfl, HB.out⟩
  · have d0 : decide (1 ≤ n) = false := by simpa using h0
    have hr : Um.okU a n g = false := by unfold Um.okU Em.rightB; rw [d0]; simp
    have HR := Lib.hid hr
    clear hr h0
    go_enter Tryz.func32, Tryz.ntmps32
    go_wp2_with fail
    go_ret
    exact ⟨by rw [HR.out]; rfl, HB.out⟩
end Go.Proofs.YtbmabcddciibfaaGreat
namespace Go.Proofs.YtbmabcddciibfaaGreat
namespace So
open Go.RowKit
set_option linter.unusedVariables false
theorem row_drew {w2 w3 : World} {o : Obj} (hb : Below (w2.alloc o).drew.heap.size (w2.alloc o).drew w3) : w3.heap[w2.heap.size]? = some o := (hb.block w2.heap.size (by show w2.heap.size < (w2.alloc o).heap.size; simp)).trans (heap_alloc_new w2 o)
theorem row_new {w2 w3 : World} {o : Obj} (hb : Below (w2.alloc o).heap.size (w2.alloc o) w3) : w3.heap[w2.heap.size]? = some o := (hb.block w2.heap.size (by simp)).trans (heap_alloc_new w2 o)
theorem row_next {w2 w3 : World} {g : Nat} {o : Obj} (hb : Below w2.heap.size w2 w3) (h : w2.heap[g]? = some o) : w3.heap[g]? = some o := (hb.block g (Array.getElem?_eq_some_iff.1 h).1).trans h
end So
end Go.Proofs.YtbmabcddciibfaaGreat
namespace Go.Proofs.YtbmabcddciibfaaGreat
namespace So
open Go.RowKit
set_option maxRecDepth 100000
set_option linter.unusedVariables false
def NoStore (x : Int) (w : World) (e : Ending) (w' : World) : Prop := e = .returned (.tuple #[.pointer none, .int .i64 x]) ∧ Below w.heap.size w w'
theorem sempty_gen (d : Option Addr) (a n g p m : Int) (w : World) : Calls Tryz.prog 45 #[.pointer d, .agg #[.int .i64 a, .int .i64 n, .int .i64 g], .agg #[.int .i64 p, .int .i64 m], .int .u32 0] w (NoStore 1 w) := by
  obtain ⟨W0, hW0⟩ : ∃ W0, (w.alloc (.cells #[.int .i64 a, .int .i64 n, .int .i64 g] 44)).alloc (.cells #[.int .i64 p, .int .i64 m] 25) = W0 := ⟨_, rfl⟩
  obtain ⟨hB, -, -, -, -⟩ := pair_made w a n g p m W0 hW0
  have HB := Lib.hid hB
  clear hB
  unfold NoStore
  cases d with
  | none =>
    go_enter Tryz.func45, Tryz.ntmps45
    go_wp2_with fail
    go_ret2
    exact ⟨rfl, HB.out⟩
  | some q =>
    go_enter Tryz.func45, Tryz.ntmps45
    go_wp2_with fail
    go_ret2
    exact ⟨rfl, HB.out⟩
theorem sempty_nil (a n g p m : Int) (gen : Nat) (w : World) : Calls Tryz.prog 45 #[.pointer none, .agg #[.int .i64 a, .int .i64 n, .int .i64 g], .agg #[.int .i64 p, .int .i64 m], .int .u32 (gen : Int)] w (NoStore 1 w) := by
  obtain ⟨W0, hW0⟩ : ∃ W0, (w.alloc (.cells #[.int .i64 a, .int .i64 n, .int .i64 g] 44)).alloc (.cells #[.int .i64 p, .int .i64 m] 25) = W0 := ⟨_, rfl⟩
  obtain ⟨hB, -, -, -, -⟩ := pair_made w a n g p m W0 hW0
  have HB := Lib.hid hB
  clear hB
  unfold NoStore
  go_enter Tryz.func45, Tryz.ntmps45
  go_wp2_with fail
  go_ret2
  exact ⟨rfl, HB.out⟩
theorem sempty_room (q : Addr) (a n g p m r x : Int) (gen : Nat) (w : World) (hg : gen ≠ 0) (hr : RoomIs a n g p m r x) (hx : x ≠ 0) : Calls Tryz.prog 45 #[.pointer (some q), .agg #[.int .i64 a, .int .i64 n, .int .i64 g], .agg #[.int .i64 p, .int .i64 m], .int .u32 (gen : Int)] w (NoStore x w) := by
  obtain ⟨W0, hW0⟩ : ∃ W0, (w.alloc (.cells #[.int .i64 a, .int .i64 n, .int .i64 g] 44)).alloc (.cells #[.int .i64 p, .int .i64 m] 25) = W0 := ⟨_, rfl⟩
  obtain ⟨hB, ⟨_, a0, a1, a2⟩, b0, b1, hsz⟩ := pair_made w a n g p m W0 hW0
  have HB := Lib.hid hB
  have RM := Lib.hid hr
  unfold RoomIs at RM
  have e1 : ((gen : Int) == 0) = false := by simpa using hg
  have e2 : (x != 0) = true := by simpa using hx
  clear hB hsz hg hx hr
  unfold NoStore
  go_enter Tryz.func45, Tryz.ntmps45
  go_wp2_with fail
  clear hW0
  refine (RM.out _).mono ?_
  rintro e w1 ⟨rfl, hb⟩
  have FB := Lib.hid (HB.out.trans (hb.mono HB.out.size))
  clear hb
  go_wp2_with fail
  go_ret2
  exact ⟨rfl, FB.out⟩
structure Bxs (w W : World) (a n g p m : Int) : Prop where
  bel : Below w.heap.size w W
  c : W.cell? ⟨w.heap.size, 0, none⟩ = some (.int .i64 a) ∧ W.cell? ⟨w.heap.size, 1, none⟩ = some (.int .i64 n) ∧ W.cell? ⟨w.heap.size, 2, none⟩ = some (.int .i64 g) ∧ W.cell? ⟨w.heap.size + 1, 0, none⟩ = some (.int .i64 p) ∧ W.cell? ⟨w.heap.size + 1, 1, none⟩ = some (.int .i64 m)
  sz : w.heap.size + 2 ≤ W.heap.size
theorem Bxs.next {w W W' : World} {a n g p m : Int} (h : Bxs w W a n g p m) (hb : Below W.heap.size W W') : Bxs w W' a n g p m := by
  obtain ⟨h1, ⟨c0, c1, c2, c3, c4⟩, h3⟩ := h
  have k : ∀ (q j : Nat) (v : Value), q < w.heap.size + 2 → W.cell? ⟨q, j, none⟩ = some v → W'.cell? ⟨q, j, none⟩ = some v := fun q j v hq hv => (hb.cell (p := ⟨q, j, none⟩) (by show q < W.heap.size; omega)).trans hv
  exact ⟨h1.trans (hb.mono h1.size), ⟨k _ _ _ (by omega) c0, k _ _ _ (by omega) c1, k _ _ _ (by omega) c2, k _ _ _ (by omega) c3, k _ _ _ (by omega) c4⟩, Nat.le_trans h3 hb.size⟩
theorem bxs_made (w : World) (a n g p m : Int) (W0 : World) (h : (w.alloc (.cells #[.int .i64 a, .int .i64 n, .int .i64 g] 44)).alloc (.cells #[.int .i64 p, .int .i64 m] 25) = W0) : Bxs w W0 a n g p m := by
  obtain ⟨hB, ⟨_, a0, a1, a2⟩, b0, b1, hsz⟩ := pair_made w a n g p m W0 h
  exact ⟨hB, ⟨a0, a1, a2, b0, b1⟩, by omega⟩
theorem quiet_eq {P : Program} {f : FuncId} {args : Array Value} {w : World} {n : Nat} {v : Value} (h : Calls P f args (w.drewN n) fun e w' => e = .returned v ∧ w.drewN n = w') : Calls P f args (w.drewN n) fun e w' => e = .returned v ∧ ∃ m, w' = w.drewN m :=
  h.mono fun e w' ⟨h1, h2⟩ => ⟨h1, n, h2.symm⟩
theorem dk_drewN {w : World} {o : Dsk.Ob} {st : Dm.St} (h : Dsk.Dk w o st) (n : Nat) : Dsk.Dk (w.drewN n) o st := h.same fun _ _ => rfl
theorem below_drewN {B : Nat} {w w1 : World} (h : Below B w w1) (n : Nat) : Below B w (w1.drewN n) := ⟨h.os, h.tape, h.output, h.size, h.block⟩
set_option maxHeartbeats 2000000 in
theorem sempty_few {w : World} {o : Dsk.Ob} {st : Dm.St} (h : Dsk.Dk w o st) {p : Pa} (hp : p.Ok) (hl : st.S.length < p.a) : Calls Tryz.prog 45 #[.pointer (some ⟨o.p, 0, none⟩), .agg #[.int .i64 (p.a : Int), .int .i64 (p.n : Int), .int .i64 (p.g : Int)], .agg #[.int .i64 (p.st : Int), .int .i64 (p.ln : Int)], .int .u32 (p.gen : Int)] w (NoStore 2 w) := by
  obtain ⟨W0, hW0⟩ : ∃ W0, (w.alloc (.cells #[.int .i64 (p.a : Int), .int .i64 (p.n : Int), .int .i64 (p.g : Int)] 44)).alloc (.cells #[.int .i64 (p.st : Int), .int .i64 (p.ln : Int)] 25) = W0 := ⟨_, rfl⟩
  have hB := bxs_made w _ _ _ _ _ W0 hW0
  have HB := Lib.hid hB
  obtain ⟨_, ⟨a0, a1, a2, b0, b1⟩, _⟩ := hB
  have RM := Lib.hid hp.roomIs
  unfold RoomIs at RM
  have SG := Lib.hid (fun w1 => lstores_ok (p.a : Int) (p.n : Int) (p.g : Int) w1 hp.sup)
  have e1 : ((p.gen : Int) == 0) = false := by have := hp.gen1; simp; omega
  have hlo := hp.low
  have hhi := hp.high
  have ha1 := hp.nums.a1
  have e3 : IntKind.i64.wrap (17 + (p.n : Int) + ((p.a : Int) - (17 + (p.n : Int)))) = (p.a : Int) := by rw [IntWalk.i64_in _ (by omega)]; omega
  have DK := Lib.hid h
  have e4 : decide ((st.S.length : Int) < (p.a : Int)) = true := by simp; omega
  have e5 : decide (st.S.length < p.a) = true := by simp; omega
  obtain ⟨L, hL⟩ : ∃ L, L = st.S.length := ⟨_, rfl⟩
  rw [← hL] at e4 e5
  have HL := Lib.hid hL
  clear h hp hl hlo hhi ha1 hL
  unfold NoStore
  go_enter Tryz.func45, Tryz.ntmps45
  go_wp2_with fail
  clear hW0
  refine (RM.out _).mono ?_
  rintro e w1 ⟨rfl, hb⟩
  have HB1 := Lib.hid (HB.out.next hb)
  obtain ⟨_, ⟨a0, a1, a2, b0, b1⟩, _⟩ := HB1.out
  clear hb
  go_wp2_with fail
  refine (SG.out _).mono ?_
  rintro e w2 ⟨rfl, hb⟩
  have HB2 := Lib.hid (HB1.out.next hb)
  clear hb
  obtain ⟨W3, hW3⟩ : ∃ W3, w2.alloc (.cells #[.int .i64 (17 + (p.n : Int)), .int .i64 ((p.a : Int) - (17 + (p.n : Int)))] 25) = W3 := ⟨_, rfl⟩
  have hb3 : Below w2.heap.size w2 W3 := by rw [← hW3]; exact (Below.refl _ _).alloc (Nat.le_refl _) _
  have hr3 : W3.heap[w2.heap.size]? = some (.cells #[.int .i64 (17 + (p.n : Int)), .int .i64 ((p.a : Int) - (17 + (p.n : Int)))] 25 (0, 0)) := by rw [← hW3]; exact heap_alloc_new w2 _
  obtain ⟨s0, s1, sf⟩ := duo_cells hr3
  have HB3 := Lib.hid (HB2.out.next hb3)
  have DK3 : Hid (∀ n, Dsk.Dk (W3.drewN n) o st) := Lib.hid fun n => dk_drewN (DK.out.below HB3.out.bel) n
  have SE : Hid (∀ n, Calls Tryz.prog 85 #[.pointer (some ⟨o.p, 0, none⟩)] (W3.drewN n) fun e w' => e = .returned (.int .i64 (L : Int)) ∧ ∃ m, w' = W3.drewN m) := Lib.hid fun n => by rw [HL.out]; exact quiet_eq (Dsk.sectors_any (DK3.out n))
  clear hb3 hr3
  go_wp2_with fail
  go_quiet (first | (go_at_call 85; exact SE.out _))
  generalize hW4 : W3.drewN nq = W4
  have FB : Hid (Below w.heap.size w W4) := Lib.hid (by rw [← hW4]; exact below_drewN HB3.out.bel nq)
  clear hW4 hW3 s0 s1 sf a0 a1 a2 b0 b1
  go_wp2_with fail
  go_ret2
  exact ⟨rfl, FB.out⟩
def MadeS (p : Pa) (o : Dsk.Ob) (st : Dm.St) (w : World) (e : Ending) (w' : World) : Prop := ∃ b, e = .returned (.tuple #[.pointer (some ⟨b.q, 0, none⟩), .int .i64 0]) ∧ Sk w' b p false st (List.replicate p.N (-1)) ∧ b.d = o ∧ w.heap.size ≤ b.q ∧ (∀ k, b.t.fp k → w.heap.size ≤ k) ∧ Below w.heap.size w w'
theorem fld_one (x y : Int) (w : World) : (Instr.field 137 (.agg #[.int .i64 x, .int .i64 y]) 1).run Tryz.prog w = .ok (.int .i64 y) w := by kernel_rfl
set_option maxHeartbeats 4000000 in
theorem sempty_ok {w : World} {o : Dsk.Ob} {st : Dm.St} (h : Dsk.Dk w o st) {p : Pa} (hp : p.Ok) (hl : st.S.length = p.a) : Calls Tryz.prog 45 #[.pointer (some ⟨o.p, 0, none⟩), .agg #[.int .i64 (p.a : Int), .int .i64 (p.n : Int), .int .i64 (p.g : Int)], .agg #[.int .i64 (p.st : Int), .int .i64 (p.ln : Int)], .int .u32 (p.gen : Int)] w (MadeS p o st w) := by
  obtain ⟨W0, hW0⟩ : ∃ W0, (w.alloc (.cells #[.int .i64 (p.a : Int), .int .i64 (p.n : Int), .int .i64 (p.g : Int)] 44)).alloc (.cells #[.int .i64 (p.st : Int), .int .i64 (p.ln : Int)] 25) = W0 := ⟨_, rfl⟩
  have hB := bxs_made w _ _ _ _ _ W0 hW0
  have HB := Lib.hid hB
  obtain ⟨_, ⟨a0, a1, a2, b0, b1⟩, _⟩ := hB
  have RM := Lib.hid hp.roomIs
  unfold RoomIs at RM
  have SG := Lib.hid (fun w1 => lstores_ok (p.a : Int) (p.n : Int) (p.g : Int) w1 hp.sup)
  have GE := Lib.hid (fun w1 => lgeom_ok (p.a : Int) (p.n : Int) (p.g : Int) w1 hp.sup)
  have e1 : ((p.gen : Int) == 0) = false := by have := hp.gen1; simp; omega
  have hlo := hp.low
  have hhi := hp.high
  have ha1 := hp.nums.a1
  have hN1 := hp.nums.N1
  have e3 : IntKind.i64.wrap (17 + (p.n : Int) + ((p.a : Int) - (17 + (p.n : Int)))) = (p.a : Int) := by rw [IntWalk.i64_in _ (by omega)]; omega
  have DK := Lib.hid h
  have e4 : decide ((p.a : Int) < (p.a : Int)) = false := by simp
  have e5 : decide (p.a < p.a) = false := by simp
  have HL := Lib.hid hl
  have NW : Hid (∀ w1, Calls Tryz.prog 87 #[.int .i64 (p.N : Int)] w1 (Tb.Made (List.replicate p.N (-1)) w1.heap.size w1)) := Lib.hid fun w1 => by
    have := Tb.new_any (p.N : Int) w1
    have e : Tb.newN (p.N : Int) = p.N := by unfold Tb.newN; rw [if_pos (by omega), Int.toNat_natCast]
    rwa [e] at this
  have hfl := fun w1 => fld_one (p.n : Int) (p.g : Int) w1
  clear h hp hl hlo hhi ha1 hN1
  unfold MadeS
  go_enter Tryz.func45, Tryz.ntmps45
  go_wp2_with fail
  clear hW0
  refine (RM.out _).mono ?_
  rintro e w1 ⟨rfl, hb⟩
  have HB1 := Lib.hid (HB.out.next hb)
  obtain ⟨_, ⟨a0, a1, a2, b0, b1⟩, _⟩ := HB1.out
  clear hb
  go_wp2_with fail
  refine (SG.out _).mono ?_
  rintro e w2 ⟨rfl, hb⟩
  have HB2 := Lib.hid (HB1.out.next hb)
  clear hb
  obtain ⟨W3, hW3⟩ : ∃ W3, w2.alloc (.cells #[.int .i64 (17 + (p.n : Int)), .int .i64 ((p.a : Int) - (17 + (p.n : Int)))] 25) = W3 := ⟨_, rfl⟩
  have hb3 : Below w2.heap.size w2 W3 := by rw [← hW3]; exact (Below.refl _ _).alloc (Nat.le_refl _) _
  have hr3 : W3.heap[w2.heap.size]? = some (.cells #[.int .i64 (17 + (p.n : Int)), .int .i64 ((p.a : Int) - (17 + (p.n : Int)))] 25 (0, 0)) := by rw [← hW3]; exact heap_alloc_new w2 _
  obtain ⟨s0, s1, sf⟩ := duo_cells hr3
  have HB3 := Lib.hid (HB2.out.next hb3)
  have DK3 : Hid (∀ n, Dsk.Dk (W3.drewN n) o st) := Lib.hid fun n => dk_drewN (DK.out.below HB3.out.bel) n
  have SE : Hid (∀ n, Calls Tryz.prog 85 #[.pointer (some ⟨o.p, 0, none⟩)] (W3.drewN n) fun e w' => e = .returned (.int .i64 (p.a : Int)) ∧ ∃ m, w' = W3.drewN m) := Lib.hid fun n => by rw [← HL.out]; exact quiet_eq (Dsk.sectors_any (DK3.out n))
  clear hb3 hr3
  go_wp2_with fail
  go_quiet (first | (go_at_call 85; exact SE.out _))
  generalize hW4 : W3.drewN nq = W4
  have HB4 : Hid (Bxs w W4 (p.a : Int) (p.n : Int) (p.g : Int) (p.st : Int) (p.ln : Int)) := Lib.hid (by rw [← hW4]; exact HB3.out.next (below_drewN (Below.refl _ _) nq))
  clear hW4 hW3 s0 s1 sf a0 a1 a2 b0 b1 SE
  obtain ⟨_, ⟨a0, a1, a2, b0, b1⟩, _⟩ := HB4.out
  go_wp2_with fail
  refine (GE.out _).mono ?_
  rintro e w5 ⟨rfl, hb⟩
  have HB5 := Lib.hid (HB4.out.next hb)
  clear hb a0 a1 a2 b0 b1
  go_wp2_with fail
  obtain ⟨W6, hW6⟩ : ∃ W6, w5.alloc (.cells #[.int .u32 (p.gen : Int), .int .i64 (p.g : Int), .int .i64 (p.N : Int), .bool false] 105) = W6 := ⟨_, rfl⟩
  rw [hW6]
  have hb6 : Below w5.heap.size w5 W6 := by rw [← hW6]; exact (Below.refl _ _).alloc (Nat.le_refl _) _
  have hr6 : W6.heap[w5.heap.size]? = some (.cells #[.int .u32 (p.gen : Int), .int .i64 (p.g : Int), .int .i64 (p.N : Int), .bool false] 105 (0, 0)) := by rw [← hW6]; exact heap_alloc_new w5 _
  have HB6 := Lib.hid (HB5.out.next hb6)
  have HR6 := Lib.hid hr6
  have CC : Hid (∀ W, Below W6.heap.size W6 W → W.cell? ⟨w5.heap.size, 0, none⟩ = some (.int .u32 (p.gen : Int)) ∧ W.cell? ⟨w5.heap.size, 1, none⟩ = some (.int .i64 (p.g : Int)) ∧ W.cell? ⟨w5.heap.size, 2, none⟩ = some (.int .i64 (p.N : Int)) ∧ W.cell? ⟨w5.heap.size, 3, none⟩ = some (.bool false)) := Lib.hid fun W hW => by
    have hr := (hW.block w5.heap.size (Dsk.lt_of_heap HR6.out)).trans HR6.out
    exact ⟨by rw [cell_of_row _ _ _ _ _ _ hr]; rfl, by rw [cell_of_row _ _ _ _ _ _ hr]; rfl, by rw [cell_of_row _ _ _ _ _ _ hr]; rfl, by rw [cell_of_row _ _ _ _ _ _ hr]; rfl⟩
  obtain ⟨_, ⟨a0, a1, a2, b0, b1⟩, _⟩ := HB6.out
  obtain ⟨h0, h1, h2, h3⟩ := CC.out W6 (Below.refl _ _)
  clear hb6 hr6
  clear hW6
  go_region_held3 (fun w' => w'.cell? ⟨w.heap.size, 0, none⟩ = some (.int .i64 (p.a : Int)) ∧ w'.cell? ⟨w.heap.size, 1, none⟩ = some (.int .i64 (p.n : Int)) ∧ w'.cell? ⟨w.heap.size, 2, none⟩ = some (.int .i64 (p.g : Int)) ∧ w'.cell? ⟨w.heap.size + 1, 0, none⟩ = some (.int .i64 (p.st : Int)) ∧ w'.cell? ⟨w.heap.size + 1, 1, none⟩ = some (.int .i64 (p.ln : Int)) ∧ w'.cell? ⟨w5.heap.size, 0, none⟩ = some (.int .u32 (p.gen : Int)) ∧ w'.cell? ⟨w5.heap.size, 1, none⟩ = some (.int .i64 (p.g : Int)) ∧ w'.cell? ⟨w5.heap.size, 2, none⟩ = some (.int .i64 (p.N : Int)) ∧ w'.cell? ⟨w5.heap.size, 3, none⟩ = some (.bool false))
    (first | (refine ⟨?_, ?_, ?_, ?_, ?_, ?_, ?_, ?_, ?_⟩ <;> assumption) | go_keep)
    (first
      | (go_at_call 87; refine (NW.out _).mono ?_; rintro e w7 ⟨⟨o', rfl, ht, hn⟩, hb⟩; have HT := Lib.hid ht; have HN := Lib.hid hn; have B7 := Lib.hid (drew_below hb); obtain ⟨_, ⟨f0, f1, f2, f3, f4⟩, _⟩ := HB6.out.next B7.out; obtain ⟨f5, f6, f7, f8⟩ := CC.out _ B7.out; clear ht hn hb))
  obtain ⟨W8, hW8⟩ : ∃ W8, w7.alloc (.cells (Bk.cells ⟨w7.heap.size, o, o'⟩ p false) 108) = W8 := ⟨_, rfl⟩
  have hb8 : Below w7.heap.size w7 W8 := by rw [← hW8]; exact (Below.refl _ _).alloc (Nat.le_refl _) _
  have hr8 : W8.heap[w7.heap.size]? = some (.cells (Bk.cells ⟨w7.heap.size, o, o'⟩ p false) 108 (0, 0)) := by rw [← hW8]; exact heap_alloc_new w7 _
  have HB7 := HB6.out.next B7.out
  have hb7 : Below w.heap.size w w7 := HB7.bel
  have hsz6 := HB6.out.bel.size
  have hdk := (DK.out.below hb7).below hb8
  have htm := HT.out.below hb8
  have FIN : Hid (Sk W8 ⟨w7.heap.size, o, o'⟩ p false st (List.replicate p.N (-1)) ∧ w.heap.size ≤ w7.heap.size ∧ (∀ k, o'.fp k → w.heap.size ≤ k) ∧ Below w.heap.size w W8) := Lib.hid ⟨⟨hr8, hdk, htm, fun k hk ho => by
      have h1 := DK.out.lt k hk
      have h2 : W6.heap.size ≤ k := HN.out k ho
      omega, fun hk => by
      have h1 := DK.out.lt _ hk
      have h2 := hb7.size
      exact Nat.lt_irrefl _ (Nat.lt_of_lt_of_le h1 h2), fun ho => Nat.lt_irrefl _ (HT.out.lt _ ho)⟩, hb7.size, fun k hk => Nat.le_trans hsz6 (HN.out k hk), hb7.trans (hb8.mono hb7.size)⟩
  unfold Bk.cells at hW8
  clear hb8 hr8 HB7 hb7 hsz6 hdk htm
  go_wp2_with fail
  clear hW8
  go_ret2
  exact ⟨⟨w7.heap.size, o, o'⟩, rfl, FIN.out.1, rfl, FIN.out.2.1, FIN.out.2.2.1, FIN.out.2.2.2⟩
end So
end Go.Proofs.YtbmabcddciibfaaGreat
namespace Go.Proofs.YtbmabcddciibfaaGreat
namespace So
open Go.RowKit
set_option maxRecDepth 100000
set_option linter.unusedVariables false
theorem rpages05 (n : Nat) (w : World) (hn : n ≤ 1048576) : Calls Tryz.prog 76 #[.int .i64 (n : Int)] w fun e w' => e = .returned (.int .i64 (Tb.pagesN n : Int)) ∧ w = w' := by
  have hpg : Tb.pagesN n ≤ n := by unfold Tb.pagesN; omega
  obtain ⟨P, hP⟩ : ∃ P, P = Tb.pagesN n := ⟨_, rfl⟩
  rw [← hP] at hpg ⊢
  have HP := Lib.hid hP
  clear hP
  go_enter Tryz.func76, Tryz.ntmps76
  go_wp2
  go_loop [3] (fun v => ∃ k : Nat, v = .int .i64 (k : Int) ∧ k ≤ P) (fun v => P - (Lib.intOf v).toNat)
  case atStart => exact ⟨0, rfl, Nat.zero_le _⟩
  case round =>
    obtain ⟨k, rfl, hk⟩ := hrel
    have hw0 : IntKind.i64.wrap (13 * (k : Int)) = ((13 * k : Nat) : Int) := by rw [IntWalk.i64_in _ (by omega)]; omega
    have hw1 : IntKind.i64.wrap ((k : Int) + 1) = ((k + 1 : Nat) : Int) := by rw [IntWalk.i64_in _ (by omega)]; rfl
    by_cases hlt : k < P
    · have h13 : 13 * k < n := by have := HP.out; unfold Tb.pagesN at this; omega
      have d1 : decide (((13 * k : Nat) : Int) < (n : Int)) = true := by simp; omega
      have d2 : decide (13 * k < n) = true := by simp; omega
      go_wp2_with fail
      go_round
      case rel => exact ⟨k + 1, rfl, by omega⟩
      case measure => simp [Lib.intOf]; omega
    · obtain rfl : k = P := by omega
      have h13 : ¬ 13 * k < n := by have := HP.out; unfold Tb.pagesN at this; omega
      have d1 : decide (((13 * k : Nat) : Int) < (n : Int)) = false := by simp; omega
      have d2 : decide (13 * k < n) = false := by simp; omega
      go_wp2_with fail
      go_ret
      exact ⟨rfl, rfl⟩
theorem rroom05 (o : Int) (g s : Nat) (w : World) (hr : Em.rightB o (g : Int) = true) (hs : s ≤ 1048576) : Calls Tryz.prog 51 #[.int .i64 o, .int .i64 (g : Int), .int .i64 (s : Int)] w fun e w' => e = .returned (.tuple #[.int .i64 (Em.room g s : Int), .int .i64 (Geo.noneE (Em.room g s))]) ∧ w = w' := by
  have hg := (Em.right_iff _ _).1 hr
  have RI := Geo.rright_any o (g : Int) w
  rw [hr] at RI
  have RIH := Lib.hid RI
  obtain ⟨P, hP⟩ : ∃ P, P = Em.room g s := ⟨_, rfl⟩
  have hle : P ≤ s := by
    obtain ⟨h1, _⟩ := Em.room_fits (c := g) (s := s) (by omega)
    rw [← hP] at h1
    by_cases h : 0 < P
    · have h2 := h1 h
      unfold Em.size at h2
      have := Nat.le_mul_of_pos_right P (show 0 < g by omega)
      omega
    · omega
  have HT : Hid (∀ k, k < P → 1 + (k + 13) / 13 + (k + 1) * g ≤ s) := Lib.hid fun k hk => by
    obtain ⟨h1, _⟩ := Em.room_fits (c := g) (s := s) (by omega)
    rw [← hP] at h1
    have h2 := Nat.le_trans (Em.size_mono (c := g) (show k + 1 ≤ P by omega)) (h1 (by omega))
    unfold Em.size at h2
    rw [Em.parts_13] at h2
    exact h2
  have HF : Hid (¬ 1 + (P + 13) / 13 + (P + 1) * g ≤ s) := Lib.hid (by
    obtain ⟨_, h2⟩ := Em.room_fits (c := g) (s := s) (by omega)
    rw [← hP] at h2
    unfold Em.size at h2
    rw [Em.parts_13] at h2
    show ¬ 1 + (P + 12 + 1) / 13 + (P + 1) * g ≤ s
    have : P + 1 + 12 = P + 12 + 1 := by omega
    rw [this] at h2
    omega)
  rw [← hP]
  have hgb : g ≤ 128 := by omega
  clear RI hr hP hg
  go_enter Tryz.func51, Tryz.ntmps51
  go_wp2_with fail
  refine RIH.out.mono ?_
  rintro e w1 ⟨rfl, rfl⟩
  have d0 : decide ((s : Int) < 0) = false := by simp
  have d00 : decide ((1048576 : Int) < (s : Int)) = false := by simp; omega
  have d01 : decide ((s : Int) > 1048576) = false := by simp; omega
  have d02 : decide (1048576 < s) = false := by simp; omega
  go_wp2_with fail
  clear d0 d00 d01 d02
  go_loop [9] (fun v => ∃ k : Nat, v = .int .i64 (k : Int) ∧ k ≤ P) (fun v => P - (Lib.intOf v).toNat)
  case atStart => exact ⟨0, rfl, Nat.zero_le _⟩
  case round =>
    obtain ⟨k, rfl, hk⟩ := hrel
    have hm1 : (k + 1) * g ≤ 1048577 * 128 := Nat.mul_le_mul (by omega) hgb
    obtain ⟨M, hM⟩ : ∃ M, M = (k + 1) * g := ⟨_, rfl⟩
    rw [← hM] at hm1
    obtain ⟨K, hK⟩ : ∃ K, K = 1 + (k + 13) / 13 + M := ⟨_, rfl⟩
    have hw1 : IntKind.i64.wrap ((k : Int) + 1) = ((k + 1 : Nat) : Int) := by rw [IntWalk.i64_in _ (by omega)]; rfl
    have hw3 : IntKind.i64.wrap (((k : Int) + 1) * (g : Int)) = (M : Int) := by
      have : ((k : Int) + 1) * (g : Int) = (M : Int) := by rw [hM]; push_cast; rfl
      rw [this]
      exact IntWalk.i64_in _ (by omega)
    have hw4 : IntKind.i64.wrap (1 + ((k : Int) + 13) / 13 + (M : Int)) = (K : Int) := by rw [IntWalk.i64_in _ (by omega)]; omega
    by_cases hlt : k < P
    · have ht := HT.out k hlt
      rw [← hM, ← hK] at ht
      have d1 : decide ((K : Int) ≤ (s : Int)) = true := by simp; omega
      have d2 : decide (K ≤ s) = true := by simp; omega
      clear hM ht hK
      go_wp2_with fail
      go_round
      case rel => exact ⟨k + 1, rfl, by omega⟩
      case measure => simp [Lib.intOf]; omega
    · obtain rfl : k = P := by omega
      have ht := HF.out
      rw [← hM, ← hK] at ht
      have d1 : decide ((K : Int) ≤ (s : Int)) = false := by simp; omega
      have d2 : decide (K ≤ s) = false := by simp; omega
      clear hM ht hK
      by_cases hk0 : k = 0
      · have e0 : ((k : Int) == 0) = true := by rw [hk0]; rfl
        have FIN : Hid ((k : Int) = 0 ∧ Geo.noneE k = 111) := Lib.hid ⟨by rw [hk0]; rfl, by unfold Geo.noneE; rw [if_pos hk0]⟩
        clear hk0
        go_wp2_with fail
        go_ret2
        exact ⟨by rw [FIN.out.1, FIN.out.2]; rfl, rfl⟩
      · have e0 : ((k : Int) == 0) = false := by simp; omega
        have FIN : Hid (Geo.noneE k = 0) := Lib.hid (by unfold Geo.noneE; rw [if_neg hk0])
        clear hk0
        go_wp2_with fail
        go_ret2
        exact ⟨by rw [FIN.out]; rfl, rfl⟩
end So
end Go.Proofs.YtbmabcddciibfaaGreat
