/- ExtentWhole: what fits may be used beside the others; gaps, and what is used, may all be used together, and leave nothing free; there is room just if one gap is as long. No condition. -/
import Derived.Test.YtemdlnphlibcaaaRows
import Derived.Test.YtemdlnphlibcaaaExtArgs
import Derived.Test.YtemdlnphlibcaaaExtentWhole
import Derived.WalkKit
import Derived.ProofKit
import Derived.ChangeOld
import Derived.Below
import Derived.OpenShut
import Derived.ShutString
import Derived.ChangeSame
import Derived.Lib.SmallJoins
namespace Go.Proofs.Ytemdlnphlibcaaa.extentWhole
open Go.ChangeShapes Go.WideShapes Go.ChangeAt Go.RowKit
open Go.ChangeMaps (open_string shut_string)
set_option linter.unusedVariables false

theorem own : ownKnob Try.prog.godebug = none := by kernel_rfl
theorem laidOut : laidOutB Try.prog = true := by kernel_rfl

theorem walk {a : Option Addr} {xs : List (Int × Int)} {c : Nat} {w : World} (s l : Int) (ws : (Lit.int .i64 s).wf = true) (wl : (Lit.int .i64 l).wf = true) (hn : xs.length ≤ maxLen) (h : Xm.Args w a xs) (hz : xs.length * 16 ≤ reachBytes) (m : Int) (wm : (Lit.int .i64 m).wf = true) :
    Calls Try.prog 4 #[.agg #[.int .i64 s, .int .i64 l], .slice a xs.length c, .int .i64 m] w fun e w' => e = .returned (.bool true) ∧ Below w.heap.size w w' := by
  have hb : xs.length * 16 ≤ 140737488355328 := by unfold reachBytes at hz; omega
  have hi : Xm.In xs xs.length := ⟨rfl, h.small, hn, hb⟩
  by_cases h20 : xs.length ≤ 20
  · cases ho : Xm.okB s l xs with
    | false => exact Xm.whole_alive s l m xs _ _ _ _ hi h.row (.inr ⟨h20, ho⟩)
    | true =>
      by_cases hf : Xm.fitE s l m xs = 0
      · exact Xm.whole_fit s l m xs _ _ _ _ hi h.row h20 ho hf
      · exact Xm.whole_not s l m xs _ _ _ _ hi h.row h20 ho hf
  · exact Xm.whole_alive s l m xs _ _ _ _ hi h.row (.inl (by omega))

set_option maxRecDepth 100000 in
theorem lifted (os : Os) (started : os.Started) (H : Type) (enc : TypeId × Value → H) :
    ReturnsInHanded {} Try.checked os 4 .any (Rows.extentWholeSpec.pre6 enc Try.prog Try.f4 Rows.extentWholeRow.domain false) (Rows.extentWholeSpec.post enc Try.prog Try.f4 false true false false) := by
  refine returnsInHanded_of_change_sized (C := Try.checked) own started (by kernel_rfl) Try.func4
    (ChangeSpec.witness6 (enc := enc) (C := Try.checked) false ⟨#[], #[.agg #[.int .i64 0, .int .i64 0], .slice none 0 0, .int .i64 0], []⟩ 8 (by kernel_rfl) (by kernel_rfl) (by kernel_rfl) (by kernel_rfl)) ?_
  intro W base args ds gs before hval0 hW hcnd hwt _
  have hval : ∀ (j : Nat) t v, Try.f4.params[j]? = some t → args[j]? = some v → Value.okWide Try.prog W .any base t v := hval0
  have hW' := hW
  obtain ⟨p, q, hA0, hV, rfl, hfz, hnd⟩ := hW
  have hA : DataW.TrodAll enc Try.prog W 0 (fun _ => true) true Try.f4.params.toList args.toList ds p := hA0
  rw [Try.params4] at hA hval
  obtain ⟨v0, vs0, d0, ds0, p0, q0, hargs, rfl, rfl, h0, r0⟩ := trodAll_cons hA
  obtain ⟨v1, vs1, d1, ds1, p1, q1, rfl, rfl, rfl, h1, r1⟩ := trodAll_cons r0
  obtain ⟨v2, vs2, d2, ds2, p2, q2, rfl, rfl, rfl, h2, r2⟩ := trodAll_cons r1
  obtain ⟨rfl, rfl, rfl⟩ := trodAll_nil r2
  obtain rfl : args = #[v0, v1, v2] := by cases args; simp_all
  obtain ⟨rfl, rfl⟩ := trodVars_none hV
  have k0 := h0
  have lt0 : ∀ x ∈ p0, x.block < W.heap.size := by obtain ⟨m, hm⟩ := k0; exact DataW.trod_lt m _ _ _ hm
  obtain ⟨a0, b0, y0, z0, m0, e0, _, _, hy0, hz0⟩ := Joins.open_agg2 Try.underlying23 (by kernel_rfl) (show Try.prog.cellsOf 23 = 2 by kernel_rfl) (hval 0 23 v0 rfl rfl) h0
  obtain ⟨x0, ex0, _, wx0⟩ := DataW.trod_int Try.underlying3 hy0
  obtain ⟨u0, eu0, _, wu0⟩ := DataW.trod_int Try.underlying3 hz0
  simp only [List.cons.injEq, and_true] at ex0 eu0
  subst ex0 eu0 e0
  have k1 := h1
  have lt1 : ∀ x ∈ p1, x.block < W.heap.size := by obtain ⟨m, hm⟩ := k1; exact DataW.trod_lt m _ _ _ hm
  obtain ⟨s1, n1, c1, rfl⟩ := okWide_slice Try.underlying24 (hval 1 24 _ rfl rfl)
  obtain ⟨fuel1, hf1⟩ := h1
  obtain ⟨s1, xs1, c1, e1, l1, A1, Z1⟩ := Xm.view_all hf1
  cases e1
  have Y1 := Z1 reachBytes (fun elems sp e => by
    have this : (elems.length + sp.length) * Try.prog.bytesOf 23 ≤ reachBytes := sized_slice hwt (j := 1) (t := 24) (elems := elems) (spare := sp) rfl (congrArg some e) Try.underlying24
    rwa [Xm.bytes_ext] at this)
  obtain ⟨a2, rfl, rfl, rfl, w2⟩ := open_int Try.underlying3 (hval 2 3 v2 rfl rfl) h2
  clear hA0 hval0
  refine (walk x0 u0 wx0 wu0 l1 A1 Y1 a2 w2).mono fun e W' ⟨he, bel⟩ => ?_
  subst he
  exact ⟨_, rfl, _, _, _, [], _, [], hW', trodAll_mk1 (shut_bool Try.underlying4 _), (trodAll_cons_mk (Below.trod laidOut (by kernel_rfl) (of_decide_eq_true (by kernel_rfl)) k0 bel lt0) (trodAll_cons_mk (Below.trod laidOut (by kernel_rfl) (of_decide_eq_true (by kernel_rfl)) k1 bel lt1) (trodAll_cons_mk (shut_int Try.underlying3 w2) trodAll_mk0))), rfl, bel.frame _, fun h => by cases h⟩

theorem over : Rows.extentWholeRow.holds Try.pinned (OpenSpec.ofChange Rows.extentWholeSpec) :=
  OpenClaim.holds_of_wide 4 Try.f4 rfl rfl rfl rfl rfl rfl rfl ⟨rfl, rfl, rfl, rfl, rfl⟩ rfl rfl rfl rfl rfl (by kernel_rfl) Try.func4 (by kernel_rfl)
    (of_decide_eq_true (by kernel_rfl)) (by unfold Func.isWrapper; first | (rw [if_pos (by decide +kernel)]; kernel_rfl) | (rw [if_neg (by decide +kernel)]; exact ⟨rfl, rfl⟩))
    (fun os started H enc _ => lifted os started H enc)

theorem proved : Rows.ExtentWholeSaid := over
#print axioms proved
end Go.Proofs.Ytemdlnphlibcaaa.extentWhole
