/- The live question of octet's statements: it is answered true. And what the statements' arguments give the walks. -/
import Derived.Test.YtdkfhgcihkjkgaaOctetGet2
import Derived.Test.YtdkfhgcihkjkgaaOctetPad
namespace Go.Proofs.Ytdkfhgcihkjkgaa
open Go.RowKit
set_option linter.unusedVariables false

theorem a_put (w : World) : Calls Try.prog 10 #[.int .u64 258, .int .i64 3] w fun e w' => e = .returned (.tuple #[.string ⟨#[2, 1, 0]⟩, .int .i64 0]) ∧ Below w.heap.size w w' := by
  have h := put_ok 258 3 w (by omega) (by omega)
  rw [show Om.low 258 3 = [2, 1, 0] from by decide] at h
  exact h
theorem a_put2 (w : World) : Calls Try.prog 10 #[.int .u64 256, .int .i64 1] w fun e w' => e = .returned (.tuple #[.string ⟨#[]⟩, .int .i64 2]) ∧ w = w' :=
  put_big 256 1 w (by omega) (by omega)
def AGot (W : World) (e : Ending) (w' : World) : Prop :=
  ∃ g c, e = .returned (.tuple #[.slice (some ⟨g, 0, none⟩) 2 c, .string ⟨#[4]⟩, .int .i64 0]) ∧ g < w'.heap.size ∧ w'.cell? ⟨g, 1, none⟩ = some (.int .u64 770) ∧ Below W.heap.size W w'
theorem a_get (W : World) (b : Nat) (c0 : W.cell? ⟨b, 0, none⟩ = some (.int .i64 1)) (c1 : W.cell? ⟨b, 1, none⟩ = some (.int .i64 2)) :
    Calls Try.prog 12 #[.string ⟨#[1, 2, 3, 4]⟩, .slice (some ⟨b, 0, none⟩) 2 2] W (AGot W) := by
  have hr : Row W W.heap.size (some ⟨b, 0, none⟩) 2 (szs [1, 2]) := fun _ => ⟨b, 0, rfl, lt_of_cell c0, fun i hi => by
    rw [Nat.zero_add]
    match i, hi with
    | 0, _ => exact c0
    | 1, _ => exact c1⟩
  refine (get_ok [1, 2, 3, 4] [1, 2] W.heap.size (some ⟨b, 0, none⟩) 2 2 W rfl (by omega) (Nat.le_refl _) hr (by decide) (by decide)).mono ?_
  rintro e w' ⟨g, c, he, _, hg, hc, hb⟩
  exact ⟨g, c, he, hg, hc 1 (by omega), hb⟩
theorem a_zero (w : World) : Calls Try.prog 17 #[.string ⟨#[0]⟩] w fun e w' => e = .returned (.bool true) ∧ w = w' :=
  zero_any [0] w (by simp)

theorem alive_any (w : World) : Calls Try.prog 7 #[] w fun e w' => e = .returned (.bool true) ∧ Below w.heap.size w w' := by
  go_enter Try.func7, Try.ntmps7
  go_wp2_with fail
  refine (a_put _).mono ?_
  rintro e w1 ⟨rfl, hb1⟩
  have HB1 := Lib.hid hb1
  clear hb1
  go_wp2_with fail
  refine (a_get _ w1.heap.size (by simp) (by simp)).mono ?_
  rintro e w2 ⟨g, c, rfl, hg, hc, hb2⟩
  have hb2' : Below (w1.heap.size + 1) (w1.alloc (.cells #[.int .i64 1, .int .i64 2] 3)) w2 := by simpa using hb2
  have HB2 := Lib.hid hb2'
  clear hb2 hb2'
  go_wp2_with fail
  refine (a_put2 _).mono ?_
  rintro e w' ⟨rfl, rfl⟩
  go_wp2_with fail
  refine (a_zero _).mono ?_
  rintro e w' ⟨rfl, rfl⟩
  go_wp2
  go_ret
  exact ⟨rfl, HB1.out.trans (((Below.refl _ _).alloc HB1.out.size _).trans (HB2.out.mono (by have := HB1.out.size; omega)))⟩
end Go.Proofs.Ytdkfhgcihkjkgaa
