/- The contract of strings.Cut at one blank. -/
import Derived.Test.YtdojclhcoboocaaDoorDmpMath
import Derived.Test.YtdojclhcoboocaaDoorOctetMem
import Derived.Lib.Bytealg
import Derived.WalkKit
import Derived.BigCall
import Derived.RegionTactic
import Derived.Deep.QuietTactic
import Derived.BigQuiet
import Derived.IntWalk
namespace Go.Proofs.YtdojclhcoboocaaDoor
open Go.RowKit Go.Lib
set_option maxRecDepth 100000
set_option linter.unusedVariables false

theorem indexbyte_any (s : ByteArray) (c : Int) (hc : c = 32) (w : World) :
    Calls Tryd.prog 37 #[.string s, .int .u8 c] w fun e w' => e = .returned (.int .i64 (Lib.indexByte s.data.toList 32)) ∧ w = w' := by
  subst hc
  go_enter Tryd.func37, Tryd.ntmps37
  go_wp2
  rw [run_callFunc_extern Tryd.func45 (by kernel_rfl) (by kernel_rfl) (by kernel_rfl) (e := Extern.BytealgIndexByte.indexByte) (by kernel_rfl), Lib.run_indexByteString]
  simp only [Result.andThen]
  rw [Oper.upon_value]
  go_wp2
  go_ret
  exact ⟨rfl, rfl⟩
theorem b_toList (l : List UInt8) : (Om.B l).toList = l := by
  rw [ByteArray.toList_eq]
  rfl
set_option maxHeartbeats 1000000 in
theorem index_any (l : List UInt8) (w : World) :
    Calls Tryd.prog 32 #[.string (Om.B l), .string (Om.B [32])] w fun e w' => e = .returned (.int .i64 (Lib.indexByte l 32)) ∧ w = w' := by
  have hsz : (Om.B [32]).size = 1 := rfl
  by_cases he : l = [32]
  · subst he
    have ht : ((Om.B [32]).toList == (Om.B [32]).toList) = true := by simp
    go_enter Tryd.func32, Tryd.ntmps32
    go_wp2
    go_ret
    exact ⟨rfl, rfl⟩
  · have ht : ((Om.B [32]).toList == (Om.B l).toList) = false := by
      rw [beq_eq_false_iff_ne, b_toList, b_toList]
      exact fun e => he e.symm
    have HE := Lib.hid he
    clear he
    go_enter Tryd.func32, Tryd.ntmps32
    go_wp2_with fail
    refine (indexbyte_any _ _ rfl _).mono ?_
    rintro e w' ⟨rfl, rfl⟩
    go_wp2
    go_ret
    exact ⟨rfl, rfl⟩
/-- What Cut tells: the first word, what is left, and whether there was a blank. -/
def CutIs (l : List UInt8) (w : World) (e : Ending) (w' : World) : Prop := e = .returned (.tuple #[.string (Om.B (Pd.cut l).1), .string (Om.B ((Pd.cut l).2.getD [])), .bool (Pd.cut l).2.isSome]) ∧ Below w.heap.size w w'
set_option maxHeartbeats 1000000 in
theorem cutin_any (l : List UInt8) (hl : l.length ≤ 4294967295) (w : World) :
    Calls Tryd.prog 24 #[.string (Om.B l), .string (Om.B [32])] w (CutIs l w) := by
  have hsz : (Om.B [32]).size = 1 := rfl
  obtain ⟨k, hk⟩ : ∃ k, k = Lib.indexByte l 32 := ⟨_, rfl⟩
  have hx := index_any l
  rw [← hk] at hx
  have HX := Lib.hid hx
  clear hx
  by_cases h0 : k = -1
  · subst h0
    have e1 := Pd.cut_none hk.symm
    have HE := Lib.hid e1
    clear e1 hk
    go_enter Tryd.func24, Tryd.ntmps24
    go_wp2_with fail
    refine (HX.out _).mono ?_
    rintro e w' ⟨rfl, rfl⟩
    go_wp2
    go_ret3
    refine ⟨?_, Below.refl _ _⟩
    rw [HE.out]
    rfl
  · obtain ⟨i, rfl⟩ : ∃ i : Nat, k = i := ⟨k.toNat, by have := Lib.indexByte_ge l 32; omega⟩
    obtain ⟨e1, e2⟩ := Pd.cut_some hk.symm
    have HE := Lib.hid e1
    have HS : Hid ((Om.B l).size = l.length) := Lib.hid (Om.B_size l)
    have c1 : (0 : Int) ≤ (i : Int) := by omega
    have c2 : (i : Int) ≤ ((Om.B l).size : Int) := by rw [HS.out]; omega
    have c3 : IntKind.i64.wrap ((i : Int) + 1) = (i : Int) + 1 := IntWalk.i64_in _ (by omega)
    have c4 : (0 : Int) ≤ (i : Int) + 1 := by omega
    have c5 : ((i : Int) + 1) ≤ ((Om.B l).size : Int) := by rw [HS.out]; omega
    clear e1 e2 hk h0
    go_enter Tryd.func24, Tryd.ntmps24
    go_wp2_with fail
    refine (HX.out _).mono ?_
    rintro e w' ⟨rfl, rfl⟩
    go_wp2
    go_quiet (fail)
    go_wp2
    go_ret3
    refine ⟨?_, below_drewN (Below.refl _ _) _⟩
    rw [HE.out]
    show Ending.returned (.tuple #[.string ((Om.B l).extract 0 i), .string ((Om.B l).extract (i + 1) (Om.B l).size), .bool true]) = _
    rw [Om.extract_front, Om.extract_end, Om.L_B]
    rfl
theorem cut_any (l : List UInt8) (hl : l.length ≤ 4294967295) (w : World) :
    Calls Tryd.prog 17 #[.string (Om.B l), .string (Om.B [32])] w (CutIs l w) := by
  go_enter Tryd.func17, Tryd.ntmps17
  go_wp2_with fail
  refine (cutin_any l hl _).mono ?_
  rintro e w' ⟨rfl, hb⟩
  go_wp2
  go_ret3
  exact ⟨rfl, hb⟩
end Go.Proofs.YtdojclhcoboocaaDoor
