/- RunsWhole: all runs, one behind the other, are the exceptions; in each chunk follows on chunk; none is longer than it may be, and none can be longer. No condition. -/
import Derived.Test.YtaedgifboepgdaaRows
import Derived.Test.YtaedgifboepgdaaRunArgs
import Derived.Test.YtaedgifboepgdaaRunsWhole
import Derived.WalkKit
import Derived.ProofKit
import Derived.ChangeOld
import Derived.Below
import Derived.OpenShut
import Derived.ShutString
import Derived.ChangeSame
import Derived.Lib.SmallJoins
namespace Go.Proofs.Ytaedgifboepgdaa.runsWhole
open Go.ChangeShapes Go.WideShapes Go.ChangeAt Go.RowKit
open Go.ChangeMaps (open_string shut_string)
set_option linter.unusedVariables false

theorem own : ownKnob Try.prog.godebug = none := by kernel_rfl
theorem laidOut : laidOutB Try.prog = true := by kernel_rfl

theorem walk {a : Option Addr} {xs : List (Int × Int)} {c : Nat} {w : World} (m : Int) (wm : (Lit.int .i64 m).wf = true) (hn : xs.length ≤ maxLen) (h : Rn.Args w a c xs) (hz : xs.length * 16 ≤ reachBytes) :
    Calls Try.prog 4 #[.int .i64 m, .slice a xs.length c] w fun e w' => e = .returned (.bool true) ∧ Below w.heap.size w w' := by
  have hi := h.in_ m wm (by unfold reachBytes at hz; omega)
  by_cases h100 : xs.length ≤ 100
  · cases hr : Rn.rightB m xs with
    | true => exact Rn.whole_yes hi h100 hr a w h.row
    | false => exact Rn.whole_alive hi (.inr hr) a w h.row
  · exact Rn.whole_alive hi (.inl (by omega)) a w h.row

set_option maxRecDepth 100000 in
theorem lifted (os : Os) (started : os.Started) (H : Type) (enc : TypeId × Value → H) :
    ReturnsInHanded {} Try.checked os 4 .any (Rows.runsWholeSpec.pre6 enc Try.prog Try.f4 Rows.runsWholeRow.domain false) (Rows.runsWholeSpec.post enc Try.prog Try.f4 false true false false) := by
  refine returnsInHanded_of_change_sized (C := Try.checked) own started (by kernel_rfl) Try.func4
    (ChangeSpec.witness6 (enc := enc) (C := Try.checked) false ⟨#[], #[.int .i64 0, .slice none 0 0], []⟩ 8 (by kernel_rfl) (by kernel_rfl) (by kernel_rfl) (by kernel_rfl)) ?_
  intro W base args ds gs before hval0 hW hcnd hwt _
  have hval : ∀ (j : Nat) t v, Try.f4.params[j]? = some t → args[j]? = some v → Value.okWide Try.prog W .any base t v := hval0
  have hW' := hW
  obtain ⟨p, q, hA0, hV, rfl, hfz, hnd⟩ := hW
  have hA : DataW.TrodAll enc Try.prog W 0 (fun _ => true) true Try.f4.params.toList args.toList ds p := hA0
  rw [Try.params4] at hA hval
  obtain ⟨v0, vs0, d0, ds0, p0, q0, hargs, rfl, rfl, h0, r0⟩ := trodAll_cons hA
  obtain ⟨v1, vs1, d1, ds1, p1, q1, rfl, rfl, rfl, h1, r1⟩ := trodAll_cons r0
  obtain ⟨rfl, rfl, rfl⟩ := trodAll_nil r1
  obtain rfl : args = #[v0, v1] := by cases args; simp_all
  obtain ⟨rfl, rfl⟩ := trodVars_none hV
  obtain ⟨a0, rfl, rfl, rfl, w0⟩ := open_int Try.underlying3 (hval 0 3 v0 rfl rfl) h0
  have k1 := h1
  have lt1 : ∀ x ∈ p1, x.block < W.heap.size := by obtain ⟨m, hm⟩ := k1; exact DataW.trod_lt m _ _ _ hm
  obtain ⟨s1, n1, c1, rfl⟩ := okWide_slice Try.underlying22 (hval 1 22 _ rfl rfl)
  obtain ⟨fuel1, hf1⟩ := h1
  obtain ⟨s1, xs1, c1, e1, l1, A1, Z1⟩ := Rn.view_all hf1
  cases e1
  have Y1 := Z1 reachBytes (fun elems sp e => by
    have this : (elems.length + sp.length) * Try.prog.bytesOf 36 ≤ reachBytes := sized_slice hwt (j := 1) (t := 22) (elems := elems) (spare := sp) rfl (congrArg some e) Try.underlying22
    rwa [Rn.bytes_ext] at this)
  clear hA0 hval0
  refine (walk a0 w0 l1 A1 Y1).mono fun e W' ⟨he, bel⟩ => ?_
  subst he
  exact ⟨_, rfl, _, _, _, [], _, [], hW', trodAll_mk1 (shut_bool Try.underlying4 _), (trodAll_cons_mk (shut_int Try.underlying3 w0) (trodAll_cons_mk (Below.trod laidOut (by kernel_rfl) (of_decide_eq_true (by kernel_rfl)) k1 bel lt1) trodAll_mk0)), rfl, bel.frame _, fun h => by cases h⟩

theorem over : Rows.runsWholeRow.holds Try.pinned (OpenSpec.ofChange Rows.runsWholeSpec) :=
  OpenClaim.holds_of_wide 4 Try.f4 rfl rfl rfl rfl rfl rfl rfl ⟨rfl, rfl, rfl, rfl, rfl⟩ rfl rfl rfl rfl rfl (by kernel_rfl) Try.func4 (by kernel_rfl)
    (of_decide_eq_true (by kernel_rfl)) (by unfold Func.isWrapper; first | (rw [if_pos (by decide +kernel)]; kernel_rfl) | (rw [if_neg (by decide +kernel)]; exact ⟨rfl, rfl⟩))
    (fun os started H enc _ => lifted os started H enc)

theorem proved : Rows.RunsWholeSaid := over
#print axioms proved
end Go.Proofs.Ytaedgifboepgdaa.runsWhole
