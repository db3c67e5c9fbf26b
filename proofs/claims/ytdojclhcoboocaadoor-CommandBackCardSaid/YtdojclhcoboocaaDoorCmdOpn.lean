/- What comes in, opened: a command, by value. CommandBack where the texts are too long. -/
import Derived.Test.YtdojclhcoboocaaDoorCmdBackW
import Derived.OpenShut
import Derived.Deep.Slices
import Derived.Deep.Fields
import Derived.Lib.SmallJoins
import Derived.SizedLaws
namespace Go.Proofs.YtdojclhcoboocaaDoor
namespace Co
open Go.RowKit Go.ChangeShapes Go.WideShapes Pd Go.Lib Go.Shelf
set_option linter.unusedVariables false
set_option maxRecDepth 100000

theorem cl_int : Tryd.prog.cellsOf 3 = 1 := by kernel_rfl
theorem cl_str : Tryd.prog.cellsOf 9 = 1 := by kernel_rfl
theorem cl_cmd : Tryd.prog.cellsOf 23 = 5 := by kernel_rfl
section
variable {H : Type} {enc : TypeId × Value → H} {w : World} {spare : Nat → Bool} {held : Bool}
theorem weights_struct {P : Program} {t : TypeId} {fs : Array Field} (ht : P.underlying t = some (.struct fs)) (parts : List (DataW H)) : DataW.weights P t (.agg parts) = DataW.weightsEach P (fs.toList.map fun f => f.type) parts := by simp [DataW.weights, ht]
theorem cmd_open {r0 : Reach} {b0 : Nat} {v : Value} {d : DataW H} {p : List MemPlace} (hv : Value.okWide Tryd.prog w r0 b0 23 v) (h : DataW.Trod enc Tryd.prog w 0 spare held 23 v d p) :
    ∃ c : Cd, v = cval c ∧ ∀ R : Nat, (∀ n ∈ d.weights Tryd.prog 23, n ≤ R) → c.op.length ≤ R ∧ c.data.length ≤ R := by
  obtain ⟨cs, rfl, hsz⟩ := okWide_struct Tryd.underlying23 hv
  obtain ⟨fuel, hf0⟩ := h
  have hl : cs.toList.length = 5 := by rw [Array.length_toList]; exact hsz.trans cl_cmd
  obtain ⟨l⟩ := cs
  have hl : l.length = 5 := hl
  match l, hl with
  | [v0, v1, v2, v3, v4], _ =>
    have hf0 : DataW.trod enc Tryd.prog w 0 spare held fuel 23 [v0, v1, v2, v3, v4] = some _ := hf0
    obtain ⟨ys, k, _, hx, _, hyl, hf⟩ := DataW.trod_struct Tryd.underlying23 hf0
    have hyl : ys.length = 5 := hyl
    have f0 : DataW.trod enc Tryd.prog w 0 spare held k 9 ((([v0, v1, v2, v3, v4] : List Value).drop 0).take (Tryd.prog.cellsOf 9)) = ys[0]? := hf 0 _ rfl
    have f1 : DataW.trod enc Tryd.prog w 0 spare held k 3 ((([v0, v1, v2, v3, v4] : List Value).drop 1).take (Tryd.prog.cellsOf 3)) = ys[1]? := hf 1 _ rfl
    have f2 : DataW.trod enc Tryd.prog w 0 spare held k 3 ((([v0, v1, v2, v3, v4] : List Value).drop 2).take (Tryd.prog.cellsOf 3)) = ys[2]? := hf 2 _ rfl
    have f3 : DataW.trod enc Tryd.prog w 0 spare held k 3 ((([v0, v1, v2, v3, v4] : List Value).drop 3).take (Tryd.prog.cellsOf 3)) = ys[3]? := hf 3 _ rfl
    have f4 : DataW.trod enc Tryd.prog w 0 spare held k 9 ((([v0, v1, v2, v3, v4] : List Value).drop 4).take (Tryd.prog.cellsOf 9)) = ys[4]? := hf 4 _ rfl
    rw [cl_str, List.getElem?_eq_getElem (by omega)] at f0 f4
    rw [cl_int, List.getElem?_eq_getElem (by omega)] at f1 f2 f3
    obtain ⟨s0, e0, y0, _⟩ := DataW.trod_string Tryd.underlying9 f0
    obtain ⟨a, e1, _, _⟩ := DataW.trod_int Tryd.underlying3 f1
    obtain ⟨b, e2, _, _⟩ := DataW.trod_int Tryd.underlying3 f2
    obtain ⟨n, e3, _, _⟩ := DataW.trod_int Tryd.underlying3 f3
    obtain ⟨s4, e4, y4, _⟩ := DataW.trod_string Tryd.underlying9 f4
    have g0 : v0 = .string s0 := by simpa using e0
    have g1 : v1 = .int .i64 a := by simpa using e1
    have g2 : v2 = .int .i64 b := by simpa using e2
    have g3 : v3 = .int .i64 n := by simpa using e3
    have g4 : v4 = .string s4 := by simpa using e4
    clear e0 e1 e2 e3 e4
    subst g0 g1 g2 g3 g4
    refine ⟨⟨Om.L s0, a, b, n, Om.L s4⟩, ?_, fun R hR => ?_⟩
    · unfold cval
      simp only [Om.B_L]
    · have hd := congrArg Prod.fst hx
      simp only at hd
      subst hd
      have hw : DataW.weights Tryd.prog 23 (.agg (ys.map fun y => y.1)) = DataW.weightsEach Tryd.prog [9, 3, 3, 3, 9] (ys.map fun y => y.1) := by
        exact weights_struct Tryd.underlying23 _
      have h0 : (ys.map fun y => y.1)[0]? = some (.lit (.string s0.data.toList)) := by rw [List.getElem?_map, List.getElem?_eq_getElem (by omega), y0]; rfl
      have h4 : (ys.map fun y => y.1)[4]? = some (.lit (.string s4.data.toList)) := by rw [List.getElem?_map, List.getElem?_eq_getElem (by omega), y4]; rfl
      have m0 := DataW.weights_mem_each (P := Tryd.prog) (ts := [9, 3, 3, 3, 9]) (j := 0) (t := 9) rfl h0 s0.data.toList.length (by simp [DataW.weights])
      have m4 := DataW.weights_mem_each (P := Tryd.prog) (ts := [9, 3, 3, 3, 9]) (j := 4) (t := 9) rfl h4 s4.data.toList.length (by simp [DataW.weights])
      rw [hw] at hR
      exact ⟨hR _ m0, hR _ m4⟩
end
set_option maxHeartbeats 4000000 in
theorem back_long (c : Cd) (s : List UInt8) (h1 : c.op.length ≤ 140737488355328) (h2 : c.data.length ≤ 140737488355328) (hl : ¬ (c.op.length + c.data.length ≤ 1000 ∧ s.length ≤ 1000)) (w : World) (hv : Vs w) : Calls Tryd.prog 5 #[cval c, .string (Om.B s)] w fun e w' => e = .returned (.bool true) ∧ Below w.heap.size w w' := by
  obtain ⟨W0, hW0⟩ : ∃ W0, w.alloc (.cells #[.string (Om.B c.op), .int .i64 c.id, .int .i64 c.at_, .int .i64 c.n, .string (Om.B c.data)] 23) = W0 := ⟨_, rfl⟩
  have B0 : Hid (Below w.heap.size w W0) := Lib.hid (by rw [← hW0]; exact (Below.refl _ w).alloc (Nat.le_refl _) _)
  have C0 : Hid (Cb W0 w.heap.size c) := Lib.hid (by rw [← hW0]; exact cb_new w c)
  have AL := Lib.hid (alive_any W0 (hv.below B0.out))
  have e1 : (Om.B c.op).size = c.op.length := rfl
  have e2 : (Om.B c.data).size = c.data.length := rfl
  have e3 : (Om.B s).size = s.length := rfl
  have e6 : wrap64 ((c.op.length : Int) + (c.data.length : Int)) = (c.op.length : Int) + (c.data.length : Int) := by unfold wrap64; omega
  obtain ⟨k0, k1, k2, k3, k4⟩ := ld_cmd C0.out
  clear hv
  unfold cval
  by_cases h4 : (1000 : Int) < (c.op.length : Int) + (c.data.length : Int)
  · clear hl h1 h2
    go_enter Tryd.func5, Tryd.ntmps5
    go_wp2_with fail
    refine AL.out.mono ?_
    rintro e w1 ⟨rfl, hb1⟩
    have B1 : Hid (Below w.heap.size w w1) := Lib.hid (B0.out.trans (hb1.mono B0.out.size))
    clear hb1
    go_wp2
    go_ret
    exact ⟨rfl, B1.out⟩
  · have h5 : (1000 : Int) < (s.length : Int) := by omega
    clear hl h1 h2
    go_enter Tryd.func5, Tryd.ntmps5
    go_wp2_with fail
    refine AL.out.mono ?_
    rintro e w1 ⟨rfl, hb1⟩
    have B1 : Hid (Below w.heap.size w w1) := Lib.hid (B0.out.trans (hb1.mono B0.out.size))
    clear hb1
    go_wp2
    go_ret
    exact ⟨rfl, B1.out⟩
theorem back_any (c : Cd) (s : List UInt8) (h1 : c.op.length ≤ 140737488355328) (h2 : c.data.length ≤ 140737488355328) (w : World) (hv : Vs w) : Calls Tryd.prog 5 #[cval c, .string (Om.B s)] w fun e w' => e = .returned (.bool true) ∧ Below w.heap.size w w' := by
  by_cases hl : c.op.length + c.data.length ≤ 1000 ∧ s.length ≤ 1000
  · exact back_short c s hl.1 hl.2 w hv
  · exact back_long c s h1 h2 hl w hv
end Co
end Go.Proofs.YtdojclhcoboocaaDoor
