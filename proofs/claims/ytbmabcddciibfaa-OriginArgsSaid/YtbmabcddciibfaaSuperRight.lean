/- Contract of super.Right; a superblock in a box. -/
import Derived.Test.YtbmabcddciibfaaSuperOk
import Derived.Test.YtbmabcddciibfaaGeomRight
import Derived.Laws.Rows
import Derived.Laws.ResultCell
import Derived.Laws.OwnMore
import Derived.Deep.RegionHeld3
import Derived.Deep.QuietTactic
import Derived.BigQuiet
import Derived.Outline
namespace Go.Proofs.Ytbmabcddciibfaa
open Go.RowKit
set_option maxRecDepth 100000
set_option linter.unusedVariables false
/-- A superblock's value. -/
def Uv (a n g : Int) : Value := .agg #[.int .i64 a, .int .i64 n, .int .i64 g]
/-- A superblock in a box. -/
structure Ux (W : World) (k : Nat) (a n g : Int) : Prop where
  lt : k < W.heap.size
  c0 : W.cell? ⟨k, 0, none⟩ = some (.int .i64 a)
  c1 : W.cell? ⟨k, 1, none⟩ = some (.int .i64 n)
  c2 : W.cell? ⟨k, 2, none⟩ = some (.int .i64 g)
theorem Ux.below {W W' : World} {k : Nat} {a n g : Int} {B : Nat} (h : Ux W k a n g) (hk : k < B) (hb : Below B W W') : Ux W' k a n g :=
  ⟨Nat.lt_of_lt_of_le h.lt hb.size, (hb.cell (p := ⟨k, 0, none⟩) hk).trans h.c0, (hb.cell (p := ⟨k, 1, none⟩) hk).trans h.c1, (hb.cell (p := ⟨k, 2, none⟩) hk).trans h.c2⟩
theorem Ux.next {W W' : World} {k : Nat} {a n g : Int} (h : Ux W k a n g) (hb : Below W.heap.size W W') : Ux W' k a n g := h.below h.lt hb
theorem ux_row {W : World} {k : Nat} {a n g : Int} {ty : TypeId} (h : W.heap[k]? = some (.cells #[.int .i64 a, .int .i64 n, .int .i64 g] ty (0, 0))) : Ux W k a n g :=
  ⟨(Array.getElem?_eq_some_iff.1 h).1, by rw [cell_of_row _ _ _ _ _ _ h]; rfl, by rw [cell_of_row _ _ _ _ _ _ h]; rfl, by rw [cell_of_row _ _ _ _ _ _ h]; rfl⟩
theorem ux_alloc (w : World) (a n g : Int) (ty : TypeId) : Ux (w.alloc (.cells #[.int .i64 a, .int .i64 n, .int .i64 g] ty)) w.heap.size a n g := ux_row (heap_alloc_new w _)

theorem uright_any (a n g : Int) (w : World) : Calls Try.prog 17 #[Uv a n g] w fun e w' => e = .returned (.bool (Um.okU a n g)) ∧ Below w.heap.size w w' := by
  have R := Lib.hid (fun w1 => Geo.right_any n g w1)
  have BX0 := Lib.hid (ux_alloc w a n g 23)
  have hb0 : Below w.heap.size w (w.alloc (.cells #[.int .i64 a, .int .i64 n, .int .i64 g] 23)) := (Below.refl _ w).alloc (Nat.le_refl _) _
  obtain ⟨W0, hW0⟩ : ∃ W0, w.alloc (.cells #[.int .i64 a, .int .i64 n, .int .i64 g] 23) = W0 := ⟨_, rfl⟩
  rw [hW0] at BX0 hb0
  have HB0 := Lib.hid hb0
  have hb1 : Below W0.heap.size W0 (W0.alloc (.cells #[.int .i64 n, .int .i64 g] 51)) := (Below.refl _ W0).alloc (Nat.le_refl _) _
  have BX1 := Lib.hid (BX0.out.next hb1)
  have HB1 := Lib.hid (HB0.out.trans (hb1.mono HB0.out.size))
  obtain ⟨g0, g1⟩ := Geo.cell_alloc2 W0 n g
  obtain ⟨lt0, a0, a1, a2⟩ := BX0.out
  clear hb0 hb1
  unfold Uv
  cases hok : Em.rightB n g with
  | false =>
    have HK := Lib.hid (show Um.okU a n g = false by unfold Um.okU; rw [hok]; rfl)
    rw [hok] at R
    clear hok
    go_enter Try.func17, Try.ntmps17
    go_wp2_with fail
    clear hW0 lt0 a0 a1 a2
    refine (R.out _).mono ?_
    rintro e w2 ⟨rfl, hb⟩
    have HB2 := Lib.hid (HB1.out.trans (hb.mono HB1.out.size))
    clear hb g0 g1
    go_wp2
    go_ret
    exact ⟨by rw [HK.out]; rfl, HB2.out⟩
  | true =>
    obtain ⟨h1, h2, h3, h4⟩ := (Em.right_iff _ _).1 hok
    have e1 : IntKind.i64.wrap (n + 17) = n + 17 := IntWalk.i64_in _ (by omega)
    rw [hok] at R
    by_cases hs : n + 17 ≤ a
    · have d1 : decide (n + 17 ≤ a) = true := by simpa using hs
      have HK := Lib.hid (show Um.okU a n g = decide (a ≤ 1048576) by unfold Um.okU; rw [hok, d1]; rfl)
      clear hok h1 h2 h3 h4 hs
      go_enter Try.func17, Try.ntmps17
      go_wp2_with fail
      clear hW0 lt0 a0 a1 a2
      refine (R.out _).mono ?_
      rintro e w2 ⟨rfl, hb⟩
      have HB2 := Lib.hid (HB1.out.trans (hb.mono HB1.out.size))
      obtain ⟨_, a0, a1, a2⟩ := BX1.out.next hb
      clear hb g0 g1
      go_wp2
      go_ret
      exact ⟨by rw [HK.out]; rfl, HB2.out⟩
    · have d1 : decide (n + 17 ≤ a) = false := by simpa using hs
      have HK := Lib.hid (show Um.okU a n g = false by unfold Um.okU; rw [hok, d1]; rfl)
      clear hok h1 h2 h3 h4 hs
      go_enter Try.func17, Try.ntmps17
      go_wp2_with fail
      clear hW0 lt0 a0 a1 a2
      refine (R.out _).mono ?_
      rintro e w2 ⟨rfl, hb⟩
      have HB2 := Lib.hid (HB1.out.trans (hb.mono HB1.out.size))
      obtain ⟨_, a0, a1, a2⟩ := BX1.out.next hb
      clear hb g0 g1
      go_wp2
      go_ret
      exact ⟨by rw [HK.out]; rfl, HB2.out⟩
end Go.Proofs.Ytbmabcddciibfaa