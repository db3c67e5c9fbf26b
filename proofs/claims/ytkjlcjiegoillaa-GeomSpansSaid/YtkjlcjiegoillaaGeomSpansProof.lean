/- GeomSpans: whether any geometry may be, its chunks, the sectors of any chunk, and the pieces of any sectors, are as the document says, or the error. No condition. -/
import Derived.Test.YtkjlcjiegoillaaRows
import Derived.Test.YtkjlcjiegoillaaGeomSpans
import Derived.WalkKit
import Derived.ProofKit
import Derived.ChangeOld
import Derived.Below
import Derived.OpenShut
import Derived.ShutString
import Derived.ChangeSame
import Derived.Lib.SmallJoins
namespace Go.Proofs.Ytkjlcjiegoillaa.geomSpans
open Go.ChangeShapes Go.WideShapes Go.ChangeAt Go.RowKit
open Go.ChangeMaps (open_string shut_string)
set_option linter.unusedVariables false

theorem own : ownKnob Try.prog.godebug = none := by kernel_rfl
theorem laidOut : laidOutB Try.prog = true := by kernel_rfl

theorem i64_wf {n : Int} (h : (Lit.int .i64 n).wf = true) : -9223372036854775808 ≤ n ∧ n ≤ 9223372036854775807 := by
  simp [Lit.wf] at h
  have e1 : IntKind.i64.min = -9223372036854775808 := by decide
  rw [e1] at h
  exact h
/-- The pieces that both tell. -/
def told (o c a m : Int) : List Em.Pc := if Geo.splitE o c a m = 0 then Em.split c.toNat a.toNat m.toNat else []
theorem walk {w : World} (o c : Int) (wo : (Lit.int .i64 o).wf = true) (wc : (Lit.int .i64 c).wf = true) (k : Int) (wk : (Lit.int .i64 k).wf = true) (a m : Int) (wa : (Lit.int .i64 a).wf = true) (wm : (Lit.int .i64 m).wf = true) :
    Calls Try.prog 3 #[.agg #[.int .i64 o, .int .i64 c], .int .i64 k, .agg #[.int .i64 a, .int .i64 m]] w fun e w' => e = .returned (.bool true) ∧ Below w.heap.size w w' := by
  by_cases hg : 4000 < o ∧ o ≤ 1048576
  · exact Geo.spans_great o c k a m w hg.1 hg.2
  · have hG : decide (4000 < o) = false ∨ (decide (4000 < o) = true ∧ decide (o ≤ 1048576) = false) := by
      by_cases h : 4000 < o
      · exact .inr ⟨by simpa using h, by simp; omega⟩
      · exact .inl (by simpa using h)
    have key : (∀ w1 : World, Calls Try.prog 9 #[.agg #[.int .i64 o, .int .i64 c], .int .i64 a, .int .i64 m] w1 fun e w' => ∃ p g cc, e = .returned (.tuple #[.slice p (told o c a m).length cc, .int .i64 (Geo.splitE o c a m)]) ∧ Geo.RowAt w' p g (told o c a m) ∧ Below w1.heap.size w1 w') ∧
        (∀ w1 : World, Calls Try.prog 10 #[.int .i64 o, .int .i64 c, .agg #[.int .i64 a, .int .i64 m]] w1 fun e w' => ∃ p g cc, e = .returned (.tuple #[.slice p (told o c a m).length cc, .int .i64 (Geo.splitE o c a m)]) ∧ Geo.RowAt w' p g (told o c a m) ∧ Below w1.heap.size w1 w') ∧
        (told o c a m).length ≤ 9223372036854775807 := by
      by_cases h : Geo.splitE o c a m = 0
      · cases hr : Em.rightB o c with
        | false => rw [Geo.splitE_wrong hr] at h; cases h
        | true =>
          rcases Geo.splitE_right hr (a := a) (m := m) with ⟨_, h1, h2, h3, h4⟩ | h1
          · obtain ⟨x, y, rfl, rfl, _⟩ := Em.right_nat hr
            obtain ⟨u, rfl⟩ : ∃ u : Nat, a = (u : Int) := ⟨a.toNat, by omega⟩
            obtain ⟨n, rfl⟩ : ∃ n : Nat, m = (n : Int) := ⟨m.toNat, by omega⟩
            have ht : told (x : Int) (y : Int) (u : Int) (n : Int) = Em.split y u n := by
              unfold told
              rw [if_pos h, Int.toNat_natCast, Int.toNat_natCast, Int.toNat_natCast]
            rw [ht, h]
            refine ⟨fun w1 => (Geo.split_ok x y u n w1 hr (by omega)).mono ?_, fun w1 => (Geo.rsplit_ok x y u n w1 hr (by omega)).mono ?_, by have := Em.split_length y u n; omega⟩
            · rintro e w2 ⟨v, rfl, hrow, hb⟩
              obtain ⟨p, g, cc, rfl, q1, q2⟩ := Geo.row_any' hrow
              exact ⟨p, g, cc, rfl, ⟨fun hl => ⟨(q1 hl).1, (q1 hl).2.2⟩, q2⟩, hb⟩
            · rintro e w2 ⟨v, rfl, hrow, hb⟩
              obtain ⟨p, g, cc, rfl, q1, q2⟩ := Geo.rrow_any hrow
              exact ⟨p, g, cc, rfl, ⟨fun hl => ⟨(q1 hl).1, (q1 hl).2.2⟩, q2⟩, hb⟩
          · rw [h] at h1; exact absurd h1.1 (by decide)
      · have ht : told o c a m = [] := by unfold told; rw [if_neg h]
        rw [ht]
        refine ⟨fun w1 => (Geo.split_no o c a m w1 (i64_wf wo).2 (i64_wf wm).1 h).mono ?_, fun w1 => (Geo.rsplit_no o c a m w1 (i64_wf wo).2 (i64_wf wa).2 h).mono ?_, by simp⟩
        · rintro e w2 ⟨rfl, hb⟩
          exact ⟨none, 0, 0, rfl, Geo.RowAt.nil _, hb⟩
        · rintro e w2 ⟨rfl, hb⟩
          exact ⟨none, 0, 0, rfl, Geo.RowAt.nil _, hb⟩
    exact Geo.spans_run o c k a m _ _ _ _ _ _ (told o c a m) _ rfl key.2.2 w (Lib.hid (Geo.span_any o c k)) (Lib.hid (Geo.rspan_any o c k)) (Lib.hid key.1) (Lib.hid key.2.1) (Lib.hid (Geo.right_any o c)) (Lib.hid (Geo.rright_any o c)) (Lib.hid (Geo.chunks_any o c)) (Lib.hid (Geo.rchunks_any o c)) hG

set_option maxRecDepth 100000 in
theorem lifted (os : Os) (started : os.Started) (H : Type) (enc : TypeId × Value → H) :
    ReturnsInHanded {} Try.checked os 3 .any (Rows.geomSpansSpec.pre6 enc Try.prog Try.f3 Rows.geomSpansRow.domain false) (Rows.geomSpansSpec.post enc Try.prog Try.f3 false true false false) := by
  refine returnsInHanded_of_change (C := Try.checked) own started (by kernel_rfl) Try.func3
    (ChangeSpec.witness6 (enc := enc) (C := Try.checked) false ⟨#[], #[.agg #[.int .i64 0, .int .i64 0], .int .i64 0, .agg #[.int .i64 0, .int .i64 0]], []⟩ 8 (by kernel_rfl) (by kernel_rfl) (by kernel_rfl) (by kernel_rfl)) ?_
  intro W base args ds gs before hval0 hW hcnd _
  have hval : ∀ (j : Nat) t v, Try.f3.params[j]? = some t → args[j]? = some v → Value.okWide Try.prog W .any base t v := hval0
  have hW' := hW
  obtain ⟨p, q, hA0, hV, rfl, hfz, hnd⟩ := hW
  have hA : DataW.TrodAll enc Try.prog W 0 (fun _ => true) true Try.f3.params.toList args.toList ds p := hA0
  rw [Try.params3] at hA hval
  obtain ⟨v0, vs0, d0, ds0, p0, q0, hargs, rfl, rfl, h0, r0⟩ := trodAll_cons hA
  obtain ⟨v1, vs1, d1, ds1, p1, q1, rfl, rfl, rfl, h1, r1⟩ := trodAll_cons r0
  obtain ⟨v2, vs2, d2, ds2, p2, q2, rfl, rfl, rfl, h2, r2⟩ := trodAll_cons r1
  obtain ⟨rfl, rfl, rfl⟩ := trodAll_nil r2
  obtain rfl : args = #[v0, v1, v2] := by cases args; simp_all
  obtain ⟨rfl, rfl⟩ := trodVars_none hV
  have k0 := h0
  have lt0 : ∀ x ∈ p0, x.block < W.heap.size := by obtain ⟨m, hm⟩ := k0; exact DataW.trod_lt m _ _ _ hm
  obtain ⟨a0, b0, y0, z0, m0, e0, _, _, hy0, hz0⟩ := Joins.open_agg2 Try.underlying23 (by kernel_rfl) (show Try.prog.cellsOf 23 = 2 by kernel_rfl) (hval 0 23 v0 rfl rfl) h0
  obtain ⟨x0, ex0, _, wx0⟩ := DataW.trod_int Try.underlying3 hy0
  obtain ⟨u0, eu0, _, wu0⟩ := DataW.trod_int Try.underlying3 hz0
  simp only [List.cons.injEq, and_true] at ex0 eu0
  subst ex0 eu0 e0
  obtain ⟨a1, rfl, rfl, rfl, w1⟩ := open_int Try.underlying3 (hval 1 3 v1 rfl rfl) h1
  have k2 := h2
  have lt2 : ∀ x ∈ p2, x.block < W.heap.size := by obtain ⟨m, hm⟩ := k2; exact DataW.trod_lt m _ _ _ hm
  obtain ⟨a2, b2, y2, z2, m2, e2, _, _, hy2, hz2⟩ := Joins.open_agg2 Try.underlying25 (by kernel_rfl) (show Try.prog.cellsOf 25 = 2 by kernel_rfl) (hval 2 25 v2 rfl rfl) h2
  obtain ⟨x2, ex2, _, wx2⟩ := DataW.trod_int Try.underlying3 hy2
  obtain ⟨u2, eu2, _, wu2⟩ := DataW.trod_int Try.underlying3 hz2
  simp only [List.cons.injEq, and_true] at ex2 eu2
  subst ex2 eu2 e2
  clear hA0 hval0
  refine (walk x0 u0 wx0 wu0 a1 w1 x2 u2 wx2 wu2).mono fun e W' ⟨he, bel⟩ => ?_
  subst he
  exact ⟨_, rfl, _, _, _, [], _, [], hW', trodAll_mk1 (shut_bool Try.underlying4 _), (trodAll_cons_mk (Below.trod laidOut (by kernel_rfl) (of_decide_eq_true (by kernel_rfl)) k0 bel lt0) (trodAll_cons_mk (shut_int Try.underlying3 w1) (trodAll_cons_mk (Below.trod laidOut (by kernel_rfl) (of_decide_eq_true (by kernel_rfl)) k2 bel lt2) trodAll_mk0))), rfl, bel.frame _, fun h => by cases h⟩

theorem over : Rows.geomSpansRow.holds Try.pinned (OpenSpec.ofChange Rows.geomSpansSpec) :=
  OpenClaim.holds_of_wide 3 Try.f3 rfl rfl rfl rfl rfl rfl rfl ⟨rfl, rfl, rfl, rfl, rfl⟩ rfl rfl rfl rfl rfl (by kernel_rfl) Try.func3 (by kernel_rfl)
    (of_decide_eq_true (by kernel_rfl)) (by unfold Func.isWrapper; first | (rw [if_pos (by decide +kernel)]; kernel_rfl) | (rw [if_neg (by decide +kernel)]; exact ⟨rfl, rfl⟩))
    (fun os started H enc _ => lifted os started H enc)

theorem proved : Rows.GeomSpansSaid := over
#print axioms proved
end Go.Proofs.Ytkjlcjiegoillaa.geomSpans
