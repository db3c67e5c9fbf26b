/- The contract of command's putWord. Made by gen_cmdput.py. -/
import Derived.Test.YtdojclhcoboocaaDoorCmdBytW
import Derived.Test.YtdojclhcoboocaaDoorFr
import Derived.Laws.Pointers
namespace Go.Proofs.YtdojclhcoboocaaDoor
namespace Co
open Go.RowKit Go.Lib Pd Dsk
set_option maxRecDepth 100000
set_option linter.unusedVariables false

/-- A command's cells, in block q. -/
def Cb (w : World) (q : Nat) (c : Cd) : Prop := w.heap[q]? = some (.cells #[.string (Om.B c.op), .int .i64 c.id, .int .i64 c.at_, .int .i64 c.n, .string (Om.B c.data)] 23 (0, 0))
theorem Cb.lt {w : World} {q : Nat} {c : Cd} (h : Cb w q c) : q < w.heap.size := (Array.getElem?_eq_some_iff.1 h).1
theorem Cb.below {w w' : World} {q : Nat} {c : Cd} (h : Cb w q c) (hb : Below w.heap.size w w') : Cb w' q c := (hb.block q h.lt).trans h
theorem Cb.cell {w : World} {q : Nat} {c : Cd} (h : Cb w q c) : ∀ j v, #[Value.string (Om.B c.op), .int .i64 c.id, .int .i64 c.at_, .int .i64 c.n, .string (Om.B c.data)][j]? = some v → w.cell? ⟨q, j, none⟩ = some v := fun j v hj => by rw [cell_of_row _ _ _ _ _ _ h]; exact hj
theorem Cb.froz {w : World} {q : Nat} {c : Cd} (h : Cb w q c) (j : Nat) : w.frozen? ⟨q, j, none⟩ = false := frozen_of_row (j := j) _ _ _ _ h
/-- What putWord tells. -/
def PutIs (x : UInt8) (l : List UInt8) (c : Cd) (q : Nat) (w : World) (e : Ending) (w' : World) : Prop := e = .returned (.bool (putC x l c).isSome) ∧ (∃ d, Cb w' q d ∧ ∀ c', putC x l c = some c' → d = c') ∧ Fr (fun i => i = q) w w'

theorem putC_105 (l : List UInt8) (c : Cd) : putC 105 l c = (numC l).map fun n => { c with id := (n : Int) } := by unfold putC; simp
theorem put_105 (l : List UInt8) (c : Cd) (q : Nat) (w : World) (hv : Vs w) (hl : l.length ≤ 4294967295) (hc : Cb w q c) : Calls Tryd.prog 19 #[.pointer (some ⟨q, 0, none⟩), .int .i32 105, .string (Om.B l)] w (PutIs 105 l c q w) := by
  have NU := Lib.hid (numof_any l w hv hl)
  unfold NumIs at NU
  have HC := Lib.hid hc
  clear hv hc
  go_enter Tryd.func19, Tryd.ntmps19
  go_wp2_with fail
  refine NU.out.mono ?_
  rintro e w1 ⟨rfl, hb⟩
  have C1 := Lib.hid (HC.out.below hb)
  have B1 := Lib.hid hb
  have c1 := C1.out.cell 1 _ rfl
  have f1 := C1.out.froz 1
  clear hb
  obtain ⟨v, hvv⟩ : ∃ v, v = (((numC l).getD 0 : Nat) : Int) := ⟨_, rfl⟩
  obtain ⟨b, hbb⟩ : ∃ b, b = (numC l).isSome := ⟨_, rfl⟩
  have SET : Hid (Cb (w1.setCell ⟨q, 1, none⟩ (.int .i64 v)) q { c with id := v }) := Lib.hid (heap_setCell_same _ q 1 _ _ _ C1.out)
  have FR : Hid (Fr (fun i => i = q) w (w1.setCell ⟨q, 1, none⟩ (.int .i64 v))) := Lib.hid ((Fr.of_below (F := fun i => i = q) B1.out).setCell ⟨q, 1, none⟩ rfl _)
  have BB := Lib.hid hbb
  have VV := Lib.hid hvv
  rw [← hvv, ← hbb]
  clear hvv hbb
  go_wp2
  go_ret
  refine ⟨?_, ⟨_, SET.out, fun c' h => ?_⟩, FR.out⟩
  · rw [putC_105, Option.isSome_map, ← BB.out]; rfl
  · rw [putC_105] at h
    obtain ⟨n, h1, rfl⟩ := Option.map_eq_some_iff.1 h
    rw [VV.out, h1]
    rfl

theorem putC_97 (l : List UInt8) (c : Cd) : putC 97 l c = (numC l).map fun n => { c with at_ := (n : Int) } := by unfold putC; simp
theorem put_97 (l : List UInt8) (c : Cd) (q : Nat) (w : World) (hv : Vs w) (hl : l.length ≤ 4294967295) (hc : Cb w q c) : Calls Tryd.prog 19 #[.pointer (some ⟨q, 0, none⟩), .int .i32 97, .string (Om.B l)] w (PutIs 97 l c q w) := by
  have NU := Lib.hid (numof_any l w hv hl)
  unfold NumIs at NU
  have HC := Lib.hid hc
  clear hv hc
  go_enter Tryd.func19, Tryd.ntmps19
  go_wp2_with fail
  refine NU.out.mono ?_
  rintro e w1 ⟨rfl, hb⟩
  have C1 := Lib.hid (HC.out.below hb)
  have B1 := Lib.hid hb
  have c1 := C1.out.cell 2 _ rfl
  have f1 := C1.out.froz 2
  clear hb
  obtain ⟨v, hvv⟩ : ∃ v, v = (((numC l).getD 0 : Nat) : Int) := ⟨_, rfl⟩
  obtain ⟨b, hbb⟩ : ∃ b, b = (numC l).isSome := ⟨_, rfl⟩
  have SET : Hid (Cb (w1.setCell ⟨q, 2, none⟩ (.int .i64 v)) q { c with at_ := v }) := Lib.hid (heap_setCell_same _ q 2 _ _ _ C1.out)
  have FR : Hid (Fr (fun i => i = q) w (w1.setCell ⟨q, 2, none⟩ (.int .i64 v))) := Lib.hid ((Fr.of_below (F := fun i => i = q) B1.out).setCell ⟨q, 2, none⟩ rfl _)
  have BB := Lib.hid hbb
  have VV := Lib.hid hvv
  rw [← hvv, ← hbb]
  clear hvv hbb
  go_wp2
  go_ret
  refine ⟨?_, ⟨_, SET.out, fun c' h => ?_⟩, FR.out⟩
  · rw [putC_97, Option.isSome_map, ← BB.out]; rfl
  · rw [putC_97] at h
    obtain ⟨n, h1, rfl⟩ := Option.map_eq_some_iff.1 h
    rw [VV.out, h1]
    rfl

theorem putC_110 (l : List UInt8) (c : Cd) : putC 110 l c = (numC l).map fun n => { c with n := (n : Int) } := by unfold putC; simp
theorem put_110 (l : List UInt8) (c : Cd) (q : Nat) (w : World) (hv : Vs w) (hl : l.length ≤ 4294967295) (hc : Cb w q c) : Calls Tryd.prog 19 #[.pointer (some ⟨q, 0, none⟩), .int .i32 110, .string (Om.B l)] w (PutIs 110 l c q w) := by
  have NU := Lib.hid (numof_any l w hv hl)
  unfold NumIs at NU
  have HC := Lib.hid hc
  clear hv hc
  go_enter Tryd.func19, Tryd.ntmps19
  go_wp2_with fail
  refine NU.out.mono ?_
  rintro e w1 ⟨rfl, hb⟩
  have C1 := Lib.hid (HC.out.below hb)
  have B1 := Lib.hid hb
  have c1 := C1.out.cell 3 _ rfl
  have f1 := C1.out.froz 3
  clear hb
  obtain ⟨v, hvv⟩ : ∃ v, v = (((numC l).getD 0 : Nat) : Int) := ⟨_, rfl⟩
  obtain ⟨b, hbb⟩ : ∃ b, b = (numC l).isSome := ⟨_, rfl⟩
  have SET : Hid (Cb (w1.setCell ⟨q, 3, none⟩ (.int .i64 v)) q { c with n := v }) := Lib.hid (heap_setCell_same _ q 3 _ _ _ C1.out)
  have FR : Hid (Fr (fun i => i = q) w (w1.setCell ⟨q, 3, none⟩ (.int .i64 v))) := Lib.hid ((Fr.of_below (F := fun i => i = q) B1.out).setCell ⟨q, 3, none⟩ rfl _)
  have BB := Lib.hid hbb
  have VV := Lib.hid hvv
  rw [← hvv, ← hbb]
  clear hvv hbb
  go_wp2
  go_ret
  refine ⟨?_, ⟨_, SET.out, fun c' h => ?_⟩, FR.out⟩
  · rw [putC_110, Option.isSome_map, ← BB.out]; rfl
  · rw [putC_110] at h
    obtain ⟨n, h1, rfl⟩ := Option.map_eq_some_iff.1 h
    rw [VV.out, h1]
    rfl

theorem putC_100 (l : List UInt8) (c : Cd) : putC 100 l c = (bytesC l).map fun d => { c with data := d } := by unfold putC; simp
theorem put_100 (l : List UInt8) (c : Cd) (q : Nat) (w : World) (hl : l.length ≤ 4294967295) (hc : Cb w q c) : Calls Tryd.prog 19 #[.pointer (some ⟨q, 0, none⟩), .int .i32 100, .string (Om.B l)] w (PutIs 100 l c q w) := by
  have NU := Lib.hid (bytesof_any l w hl)
  unfold BytIs at NU
  have HC := Lib.hid hc
  clear hc
  go_enter Tryd.func19, Tryd.ntmps19
  go_wp2_with fail
  refine NU.out.mono ?_
  rintro e w1 ⟨rfl, hb⟩
  have C1 := Lib.hid (HC.out.below hb)
  have B1 := Lib.hid hb
  have c1 := C1.out.cell 4 _ rfl
  have f1 := C1.out.froz 4
  clear hb
  obtain ⟨v, hvv⟩ : ∃ v, v = (bytesC l).getD [] := ⟨_, rfl⟩
  obtain ⟨b, hbb⟩ : ∃ b, b = (bytesC l).isSome := ⟨_, rfl⟩
  have SET : Hid (Cb (w1.setCell ⟨q, 4, none⟩ (.string (Om.B v))) q { c with data := v }) := Lib.hid (heap_setCell_same _ q 4 _ _ _ C1.out)
  have FR : Hid (Fr (fun i => i = q) w (w1.setCell ⟨q, 4, none⟩ (.string (Om.B v)))) := Lib.hid ((Fr.of_below (F := fun i => i = q) B1.out).setCell ⟨q, 4, none⟩ rfl _)
  have BB := Lib.hid hbb
  have VV := Lib.hid hvv
  rw [← hvv, ← hbb]
  clear hvv hbb
  go_wp2
  go_ret
  refine ⟨?_, ⟨_, SET.out, fun c' h => ?_⟩, FR.out⟩
  · rw [putC_100, Option.isSome_map, ← BB.out]; rfl
  · rw [putC_100] at h
    obtain ⟨n, h1, rfl⟩ := Option.map_eq_some_iff.1 h
    rw [VV.out, h1]
    rfl
theorem put_any (x : UInt8) (hx : x = 105 ∨ x = 97 ∨ x = 110 ∨ x = 100) (l : List UInt8) (c : Cd) (q : Nat) (w : World) (hv : Vs w) (hl : l.length ≤ 4294967295) (hc : Cb w q c) : Calls Tryd.prog 19 #[.pointer (some ⟨q, 0, none⟩), .int .i32 x.toNat, .string (Om.B l)] w (PutIs x l c q w) := by
  rcases hx with rfl | rfl | rfl | rfl
  · exact put_105 l c q w hv hl hc
  · exact put_97 l c q w hv hl hc
  · exact put_110 l c q w hv hl hc
  · exact put_100 l c q w hl hc
end Co
end Go.Proofs.YtdojclhcoboocaaDoor
