/- Contracts of a geometry's calls: Chunks, Size. -/
import Derived.Test.YtbmabcddciibfaaGeomPages
import Derived.Test.YtbmabcddciibfaaGeomRooms
namespace Go.Proofs.Ytbmabcddciibfaa
namespace Geo
open Go.RowKit
set_option linter.unusedVariables false
theorem chunks_no (o c : Int) (w : World) (hr : Em.rightB o c = false) : Calls Try.prog 38 #[.agg #[.int .i64 o, .int .i64 c]] w fun e w' => e = .returned (.int .i64 0) ∧ Below w.heap.size w w' := by
  have C := fun w1 => Lib.hid (right_any o c w1)
  rw [hr] at C
  have HB : Hid (Below w.heap.size w (w.alloc (.cells #[.int .i64 o, .int .i64 c] 51))) := (Below.refl _ w).alloc (Nat.le_refl _) _
  clear hr
  go_enter Try.func38, Try.ntmps38
  go_wp2_with fail
  refine (C _).out.mono ?_
  rintro e w1 ⟨rfl, hb⟩
  have HB1 := Lib.hid (HB.out.trans (hb.mono HB.out.size))
  clear hb
  go_wp2_with fail
  go_ret
  exact ⟨rfl, HB1.out⟩
theorem chunks_ok (o c : Nat) (w : World) (hr : Em.rightB o c = true) : Calls Try.prog 38 #[.agg #[.int .i64 (o : Int), .int .i64 (c : Int)]] w fun e w' => e = .returned (.int .i64 (Em.parts o c : Nat)) ∧ Below w.heap.size w w' := by
  have C := fun w1 => Lib.hid (right_any o c w1)
  rw [hr] at C
  obtain ⟨h1, h2, h3, h4⟩ := (Em.right_iff _ _).1 hr
  have D := fun w1 => Lib.hid (parts_any o c w1 (by omega) (by omega) (by omega))
  have HB : Hid (Below w.heap.size w (w.alloc (.cells #[.int .i64 (o : Int), .int .i64 (c : Int)] 51))) := (Below.refl _ w).alloc (Nat.le_refl _) _
  have hg0 := cell_alloc2 w (o : Int) (c : Int)
  clear hr h1 h2 h3 h4
  go_enter Try.func38, Try.ntmps38
  go_wp2_with fail
  refine (C _).out.mono ?_
  rintro e w1 ⟨rfl, hb⟩
  have c0 := (hb.cell (p := ⟨w.heap.size, 0, none⟩) (by simp)).trans hg0.1
  have c1 := (hb.cell (p := ⟨w.heap.size, 1, none⟩) (by simp)).trans hg0.2
  have HB1 := Lib.hid (HB.out.trans (hb.mono HB.out.size))
  clear hb hg0
  go_wp2_with fail
  refine (D _).out.mono ?_
  rintro e w2 ⟨rfl, rfl⟩
  go_wp2_with fail
  go_ret
  exact ⟨rfl, HB1.out⟩

end Geo
end Go.Proofs.Ytbmabcddciibfaa